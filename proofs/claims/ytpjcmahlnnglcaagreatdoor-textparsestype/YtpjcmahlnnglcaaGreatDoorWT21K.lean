/- The document's reader of texts: one. -/
import Derived.Test.YtpjcmahlnnglcaaGreatDoorA4
import Derived.Test.YtpjcmahlnnglcaaGreatDoorA3
namespace Go.Proofs.YtpjcmahlnnglcaaGreatDoor
open Go.RowKit

/-- bytes are passed over -/
theorem Rd21.skip {w w' : World} {R : Nat} {S : ByteArray} {a r : Tx.Bs} (h : Rd21 w R S (a ++ r)) (hl : w'.heap[R]? = some (.cells (rdC S ((S.size - r.length : Nat) : Int) 0 0) 74)) : Rd21 w' R S r := by
  have hle := h.le
  have hs := h.suf
  simp only [List.length_append] at hle hs
  refine ⟨hl, ?_, by omega, h.small⟩
  have e : S.size - r.length = (S.size - (a.length + r.length)) + a.length := by omega
  rw [e, ← List.drop_drop, hs, List.drop_left]
/-- what stands behind a type within another: the bracket -/
theorem close21 {w wr w3 w4 : World} {R : Nat} {S : ByteArray} {K k : Int} {p : Option Addr} {n c : Nat} {X Y : Tx.R (Ty × Tx.Bs)} (hR : R < w.heap.size) (hzw : w.heap.size < wr.heap.size)
    (ht3 : w3.heap[wr.heap.size]? = some (.cells #[.int .i64 K, .slice none 0 0] 24)) (hA3 : Aside (fun k => k = R) w w3) (hA4 : Aside (fun k => k = R) w3 w4)
    (hz4 : w4.heap[w.heap.size]? = some (.cells #[.int .i64 0, .slice none 0 0] 24)) (ht4 : w4.heap[wr.heap.size]? = some (.cells #[.int .i64 K, .slice none 0 0] 24))
    (hX : X = match Y with
      | .error e => .error e
      | .ok (t, r) => match Tx.must [41] r with
        | .error e => .error e
        | .ok r => .ok (⟨K, [t]⟩, r))
    (hO : One21 w3 R S Y (.returned (.agg #[.int .i64 k, .slice p n c])) w4) :
    Calls Tryz.prog 50 #[.pointer (some ⟨R, 0, none⟩), .string ⟨#[41]⟩] ((w4.setCell ⟨wr.heap.size, 1, none⟩ (.slice (some ⟨w4.heap.size, 0, none⟩) 1 1)).alloc (.cells #[.int .i64 k, .slice p n c] 24)) fun e w6 => e = .returned (.tuple #[]) ∧ w6.heap[w.heap.size]? = some (.cells #[.int .i64 0, .slice none 0 0] 24) ∧ w6.heap[wr.heap.size]? = some (.cells #[.int .i64 K, .slice (some ⟨w4.heap.size, 0, none⟩) 1 1] 24) ∧ ∀ w7, Aside (fun k => k = w.heap.size) w6 w7 → One21 w R S X (.returned (.agg #[.int .i64 K, .slice (some ⟨w4.heap.size, 0, none⟩) 1 1])) w7 := by
  obtain ⟨V, hV⟩ : ∃ V, w4.setCell ⟨wr.heap.size, 1, none⟩ (.slice (some ⟨w4.heap.size, 0, none⟩) 1 1) = V := ⟨_, rfl⟩
  have hVs : V.heap.size = w4.heap.size := by rw [← hV]; simp only [World.setCell, Array.size_modify]
  have hVa : Aside (fun k => k = wr.heap.size) w4 V := by rw [← hV]; exact (Aside.refl (fun k => k = wr.heap.size) w4).setCell (p := ⟨wr.heap.size, 1, none⟩) (.inl rfl) _
  have hVt : V.heap[wr.heap.size]? = some (.cells #[.int .i64 K, .slice (some ⟨w4.heap.size, 0, none⟩) 1 1] 24) := by
    rw [← hV]
    simp only [World.setCell, Array.getElem?_modify, ht4, if_true, Option.map_some]
    rfl
  rw [hV]
  obtain ⟨W, hW⟩ : ∃ W, V.alloc (.cells #[.int .i64 k, .slice p n c] 24) = W := ⟨_, rfl⟩
  have hb : Below V.heap.size V W := by rw [← hW]; exact (Below.refl _ _).alloc (Nat.le_refl _) _
  have hg : W.heap[w4.heap.size]? = some (.cells #[.int .i64 k, .slice p n c] 24) := by rw [← hW, ← hVs]; exact blk_new V _
  rw [hW]
  have h34 : wr.heap.size < w3.heap.size := blk_lt ht3
  have h44 : w3.heap.size ≤ w4.heap.size := hA4.size
  have hA5 : Aside (fun k => k = wr.heap.size) w4 W := hVa.trans (aside_new hb _) (fun _ _ h => h)
  have hz5 : W.heap[w.heap.size]? = some (.cells #[.int .i64 0, .slice none 0 0] 24) := (hA5.block w.heap.size (blk_lt hz4) (by omega)).trans hz4
  have ht5 : W.heap[wr.heap.size]? = some (.cells #[.int .i64 K, .slice (some ⟨w4.heap.size, 0, none⟩) 1 1] 24) := (hb.block wr.heap.size (blk_lt hVt)).trans hVt
  have hAw : Aside (fun k => k = R) w W := (hA3.trans hA4 (fun _ _ h => h)).trans hA5 (fun i hi hc => by omega)
  obtain ⟨_, hO⟩ := hO
  cases Y with
  | error y =>
    obtain ⟨e, m⟩ := y
    obtain ⟨_, _, _, _, _, hB⟩ := hO
    have hB5 := hB.aside hA5 (by omega)
    refine (refMustBad21 hB5 ⟨#[41]⟩ (by decide)).mono fun r w' ⟨q1, q2⟩ => ?_
    subst q2
    refine ⟨q1, hz5, ht5, fun w7 h7 => ?_⟩
    rw [hX]
    exact ⟨hAw.trans h7 (fun i hi hc => by omega), K, _, _, _, rfl, hB5.aside h7 (by omega)⟩
  | ok y =>
    obtain ⟨t, r2⟩ := y
    obtain ⟨k', p', n', c', F, q, hT, hF, hD⟩ := hO
    injection q with q
    injection q with q
    rw [← q] at hT
    have hD5 := hD.aside hA5 (by omega)
    refine (refMust21 hD5 ⟨#[41]⟩ (by decide)).mono fun r w' ⟨q1, q2, q3⟩ => ?_
    have em : (ByteArray.mk #[41]).data.toList = [41] := rfl
    rw [em] at q2
    refine ⟨q1, (q3.block w.heap.size (blk_lt hz5) (by omega)).trans hz5, (q3.block wr.heap.size (blk_lt ht5) (by omega)).trans ht5, fun w7 h7 => ?_⟩
    have hA7 : Aside (fun k => k = R) w w7 := (hAw.trans q3 (fun _ _ h => h)).trans h7 (fun i hi hc => by omega)
    have hg7 : w7.heap[w4.heap.size]? = some (.cells #[.int .i64 k, .slice p n c] 24) := by
      have g1 := (q3.block w4.heap.size (blk_lt hg) (by omega)).trans hg
      exact (h7.block w4.heap.size (blk_lt g1) (by omega)).trans g1
    have hT7 : TOwn w7 F #[.int .i64 k, .slice p n c] t :=
      ((hT.aside hA5 (fun i hi hc => by have := hF i hi; omega)).aside q3 (fun i hi hc => by have := hF i hi; omega)).aside h7 (fun i hi hc => by have := hF i hi; omega)
    rw [hX]
    dsimp only
    cases hm : Tx.must [41] r2 with
    | error y =>
      obtain ⟨e, m⟩ := y
      rw [hm] at q2
      exact ⟨hA7, K, _, _, _, rfl, Bad21.aside q2 h7 (by omega)⟩
    | ok r3 =>
      rw [hm] at q2
      refine ⟨hA7, K, _, _, _, fun i => F i ∨ i = w4.heap.size, rfl, TOwn.one hg7 hT7 (fun _ h => .inl h) (fun hc => by have := hF _ hc; omega) (.inr rfl), fun i hi => ?_, Rd21.aside q2 h7 (by omega)⟩
      have := blk_lt hg7
      rcases hi with hi | hi
      · have := hF i hi; omega
      · omega
section
variable {w w' : World} {R : Nat} {S : ByteArray} {l : Tx.Bs}
set_option maxRecDepth 100000 in
set_option maxHeartbeats 4000000 in
theorem refOne21 : ∀ (f : Nat) (w : World) (l : Tx.Bs), f ≤ 4 → Rd21 w R S l → Calls Tryz.prog 44 #[.pointer (some ⟨R, 0, none⟩), .int .i64 ((5 - f : Nat) : Int)] w (One21 w R S (Tx.pty f l))
  | 0, w, l, _, h => refOneZero21 h
  | f + 1, w, l, hf, h => by
    obtain ⟨W0, hW0⟩ : ∃ W0, w.alloc (.cells #[.int .i64 0, .slice none 0 0] 24) = W0 := ⟨_, rfl⟩
    have hb0 : Below w.heap.size w W0 := by rw [← hW0]; exact (Below.refl _ _).alloc (Nat.le_refl _) _
    have hz0 : W0.heap[w.heap.size]? = some (.cells #[.int .i64 0, .slice none 0 0] 24) := by rw [← hW0]; exact blk_new w _
    have h0 := h.on hb0
    have g4 : ¬ (4 : Int) < ((5 - (f + 1) : Nat) : Int) := by omega
    obtain ⟨dp, hdp⟩ : ∃ dp, dp = 5 - (f + 1) := ⟨_, rfl⟩
    rw [← hdp] at g4 ⊢
    obtain ⟨X, hX⟩ : ∃ X, X = Tx.pty (f + 1) l := ⟨_, rfl⟩
    rw [← hX]
    have HX := Lib.hid hX
    clear hX
    have HDP := Lib.hid hdp
    have HRw := Lib.hid (refRow21 h0 0 (by omega))
    have e0 : inSet 0 = Sch.low := rfl
    rw [e0] at HRw
    obtain ⟨wd, hwd⟩ : ∃ wd, wd = l.takeWhile Sch.low := ⟨_, rfl⟩
    rw [← hwd] at HRw
    have HKs := Lib.hid (fun w' => refKinds21 w')
    have HH0 := Lib.hid h0
    have HB0 := Lib.hid hb0
    have HZ0 := Lib.hid hz0
    have HW0 := Lib.hid hW0
    have HH := Lib.hid h
    have HWD := Lib.hid hwd
    clear hdp h h0 hb0 hz0 e0 hwd
    go_enter Tryz.func44, Tryz.ntmps44
    go_wp2_with fail
    refine HRw.out.mono ?_
    rintro e w1 ⟨rfl, hb1⟩
    have HB1 := Lib.hid hb1
    clear hb1 HRw
    go_wp2_with fail
    refine (HKs.out w1).mono ?_
    rintro e w2 ⟨rfl, hw2⟩
    have hk2 : w2.heap[w1.heap.size]? = some (.cells kindsC 9) := by rw [hw2]; exact blk_new w1 _
    have hb2 : Below w1.heap.size w1 w2 := by rw [hw2]; exact (Below.refl _ _).alloc (Nat.le_refl _) _
    have HK2 := Lib.hid hk2
    have HB2 := Lib.hid hb2
    clear hw2 hk2 hb2 HKs
    go_wp2_with fail
    go_loopw [6, 23] (fun v6 v23 wr => wr = w2 ∧ ∃ j : Nat, j ≤ 8 ∧ v23 = .int .i64 (j : Nat) ∧ v6 = .int .i64 (kf wd j)) (fun _ v23 _ => 8 - (intOf v23).toNat)
    case atStart => exact ⟨rfl, 0, Nat.zero_le _, rfl, rfl⟩
    case round =>
      obtain ⟨hwr, j, hj, rfl, rfl⟩ := hrel
      subst hwr
      by_cases hlt : j < 8
      · have f1 : (j : Int) < 8 := by omega
        have y0 : wr.cell? ⟨w1.heap.size, j, none⟩ = kindsC[j]? := by
          unfold World.cell?
          rw [HK2.out]
          rfl
        by_cases hj0 : j = 0
        · have y1 : kindsC[j]? = some (.string ⟨#[]⟩) := by rw [hj0]; rfl
          rw [y1] at y0
          have g1 : ¬ (0 : Int) < (j : Int) := by omega
          have g2 : decide ((0 : Int) < (j : Int)) = false := decide_eq_false g1
          have g3 : decide (0 < j) = false := decide_eq_false (by omega)
          have HN : Hid (kf wd (j + 1) = kf wd j) := by show _ = _; rw [kf, if_neg (by omega)]
          clear y1 hj0
          go_wp2
          go_roundw
          case rel => exact ⟨trivial, j + 1, by omega, by go_num, by rw [HN.out]⟩
          case measure => simp [intOf]; omega
        · rw [kinds_at (m := j) (by omega)] at y0
          have g1 : (0 : Int) < (j : Int) := by omega
          have g2 : decide ((0 : Int) < (j : Int)) = true := decide_eq_true g1
          have g3 : decide (0 < j) = true := decide_eq_true (by omega)
          obtain ⟨X, hX⟩ : ∃ X, X = Tx.word (j : Int) := ⟨_, rfl⟩
          rw [← hX] at y0
          have e9 : ∀ a : Tx.Bs, (ByteArray.mk a.toArray).toList = a := fun a => by rw [ByteArray.toList_eq]
          have e8 := e9 X
          have e7 := e9 wd
          clear e9
          by_cases hx : X = wd
          · have HN : Hid (kf wd (j + 1) = (j : Int)) := by show _ = _; rw [kf, if_pos ⟨by omega, by rw [← hX]; exact hx⟩]
            have e6 : (X == wd) = true := by rw [beq_iff_eq]; exact hx
            clear hX hx hj0
            go_wp2
            go_roundw
            case rel => exact ⟨trivial, j + 1, by omega, by go_num, by rw [HN.out]⟩
            case measure => simp [intOf]; omega
          · have HN : Hid (kf wd (j + 1) = kf wd j) := by show _ = _; rw [kf, if_neg (fun hc => hx (by rw [hX]; exact hc.2))]
            have e6 : (X == wd) = false := by rw [beq_eq_false_iff_ne]; exact hx
            clear hX hx hj0
            go_wp2
            go_roundw
            case rel => exact ⟨trivial, j + 1, by omega, by go_num, by rw [HN.out]⟩
            case measure => simp [intOf]; omega
      · obtain rfl : j = 8 := by omega
        have hkf := kf_all wd
        obtain ⟨K, hK⟩ : ∃ K, K = Tx.kindOf wd := ⟨_, rfl⟩
        rw [hkf, ← hK]
        have HK := Lib.hid hK
        have hzs : W0.heap.size = w.heap.size + 1 := by rw [← HW0.out]; exact Array.size_push _
        have hbw : Below w.heap.size w wr := by
          have q1 := (HB1.out).mono (show w.heap.size ≤ W0.heap.size by omega)
          have q2 := (HB2.out).mono (show w.heap.size ≤ w1.heap.size by have := HB1.out.size; omega)
          exact (HB0.out.trans q1).trans q2
        have hz : wr.heap[w.heap.size]? = some (.cells #[.int .i64 0, .slice none 0 0] 24) := by
          rw [HB2.out.block w.heap.size (by have := HB1.out.size; omega), HB1.out.block w.heap.size (by omega)]
          exact HZ0.out
        have HBW := Lib.hid hbw
        have HZ := Lib.hid hz
        have HR := Lib.hid (HH.out.on hbw)
        have c1 : wr.cell? ⟨R, 1, none⟩ = some (.int .i64 ((S.size - l.length : Nat) : Int)) := HR.out.cell 1
        have HRl := Lib.hid HH.out.lt
        have hRz : ¬ w.heap.size = R := by have := HRl.out; omega
        clear hkf hK hbw hz HB1 HB2 HB0 HK2 HH0 HZ0 HW0 hW0
        by_cases hK0 : K = 0
        · subst hK0
          have HXe : Hid (X = .error (5, l.length)) := by
            show X = _
            rw [HX.out, Tx.pty, ← HWD.out, ← HK.out, if_pos rfl]
          have HF : Hid (Calls Tryz.prog 49 #[.pointer (some ⟨R, 0, none⟩), .int .i64 5, .int .i64 ((S.size - l.length : Nat) : Int)] wr fun r w' => r = .returned (.tuple #[]) ∧ w'.heap[w.heap.size]? = some (.cells #[.int .i64 0, .slice none 0 0] 24) ∧ One21 w R S (.error (5, l.length)) (.returned (.agg #[.int .i64 0, .slice none 0 0])) w') := by
            refine (refFail21 HR.out 5 l.length (by decide)).mono fun r w' ⟨q1, q2, q3⟩ => ⟨q1, ?_, ?_, ⟨_, _, _, _, rfl, q2⟩⟩
            · exact (q3.block w.heap.size (blk_lt HZ.out) hRz).trans HZ.out
            · exact (aside_new HBW.out _).trans q3 (fun _ _ h => h)
          clear HR HZ HBW HX
          go_wp2_with fail
          refine HF.out.mono ?_
          rintro e w3 ⟨rfl, hz1, hp1⟩
          have y0 : w3.cell? ⟨w.heap.size, 0, none⟩ = some (.int .i64 0) := blk_cell hz1 0
          have y1 : w3.cell? ⟨w.heap.size, 1, none⟩ = some (.slice none 0 0) := blk_cell hz1 1
          have t0 := blk_free hz1 0
          have t1 := blk_free hz1 1
          have HZ1 := Lib.hid hz1
          have HP1 := Lib.hid hp1
          clear hz1 hp1 HF
          obtain ⟨hz2, ha2⟩ := set_two HZ1.out (.int .i64 0) (.slice none 0 0) rfl
          have HZ2 := Lib.hid hz2
          have HP2 := Lib.hid (one_on HP1.out HRl.out ha2 (blk_lt HZ1.out))
          clear hz2 ha2
          go_wp2
          refine bodyPost_ret (v := .agg #[.int .i64 0, .slice none 0 0]) (results_cell_row rfl _ _ w.heap.size _ _ _ _ rfl HZ2.out Tryz.underlying24 rfl (by kernel_rfl)) rfl ?_
          rw [HXe.out]
          exact HP2.out
        · have b1 : (K == 0) = false := by rw [beq_eq_false_iff_ne]; exact hK0
          obtain ⟨r, hr⟩ : ∃ r, r = l.dropWhile Sch.low := ⟨_, rfl⟩
          have hlr : l = wd ++ r := by rw [HWD.out, hr]; exact (List.takeWhile_append_dropWhile).symm
          have HR' : Rd21 wr R S (wd ++ r) := by rw [← hlr]; exact HR.out
          have hle := HR'.le
          have hsm := HR'.small
          have hll : l.length = wd.length + r.length := by rw [hlr, List.length_append]
          rw [List.length_append] at hle
          obtain ⟨a, ha⟩ : ∃ a, S.size - l.length = a := ⟨_, rfl⟩
          rw [ha] at c1
          have hra : ((S.size - r.length : Nat) : Int) = (a : Int) + (wd.length : Int) := by omega
          have t1 := HR.out.thawed 1
          have g5 : (a : Int) + (wd.length : Int) ≤ 140737488351232 := by omega
          have g6 : (0 : Int) ≤ (a : Int) + (wd.length : Int) := by omega
          obtain ⟨W1, hW1⟩ : ∃ W1, wr.setCell ⟨R, 1, none⟩ (.int .i64 ((a : Int) + (wd.length : Int))) = W1 := ⟨_, rfl⟩
          have hR1 : Rd21 W1 R S r := by
            refine HR'.skip ?_
            rw [hra, ← hW1]
            simp only [World.setCell, Array.getElem?_modify, HR.out.lies, if_true, Option.map_some]
            rw [ha]
            rfl
          have hA1 : Aside (fun k => k = R) w W1 := by
            rw [← hW1]
            exact (aside_new HBW.out _).trans ((Aside.refl (fun k => k = R) wr).setCell (p := ⟨R, 1, none⟩) (.inl rfl) _) (fun _ _ h => h)
          have hAw : Aside (fun k => k = R) wr W1 := by
            rw [← hW1]
            exact (Aside.refl (fun k => k = R) wr).setCell (p := ⟨R, 1, none⟩) (.inl rfl) _
          have hz1 : W1.heap[w.heap.size]? = some (.cells #[.int .i64 0, .slice none 0 0] 24) := (hAw.block w.heap.size (blk_lt HZ.out) hRz).trans HZ.out
          obtain ⟨W2, hW2⟩ : ∃ W2, W1.alloc (.cells #[.int .i64 K, .slice none 0 0] 24) = W2 := ⟨_, rfl⟩
          have hb2 : Below W1.heap.size W1 W2 := by rw [← hW2]; exact (Below.refl _ _).alloc (Nat.le_refl _) _
          have hz2 : W2.heap[w.heap.size]? = some (.cells #[.int .i64 0, .slice none 0 0] 24) := (hb2.block w.heap.size (blk_lt hz1)).trans hz1
          have hR2 := hR1.on hb2
          have hA2 : Aside (fun k => k = R) w W2 := hA1.trans (aside_new hb2 _) (fun _ _ h => h)
          have ht2 : W2.heap[W1.heap.size]? = some (.cells #[.int .i64 K, .slice none 0 0] 24) := by rw [← hW2]; exact blk_new W1 _
          by_cases hK6 : K < 6
          · have b2 : ¬ (6 : Int) ≤ K := by omega
            have b3 : decide ((6 : Int) ≤ K) = false := decide_eq_false b2
            have HXe : Hid (X = .ok (⟨K, []⟩, r)) := by
              show X = _
              rw [HX.out, Tx.pty, ← HWD.out, ← HK.out, if_neg hK0, if_pos hK6, ← hr]
            have y0 : W2.cell? ⟨w.heap.size, 0, none⟩ = some (.int .i64 0) := blk_cell hz2 0
            have y1 : W2.cell? ⟨w.heap.size, 1, none⟩ = some (.slice none 0 0) := blk_cell hz2 1
            have v0 := blk_free hz2 0
            have v1 := blk_free hz2 1
            obtain ⟨hz3, ha3⟩ := set_two hz2 (.int .i64 K) (.slice none 0 0) rfl
            have HP : Hid (One21 w R S (.ok (⟨K, []⟩, r)) (.returned (.agg #[.int .i64 K, .slice none 0 0])) ((W2.setCell ⟨w.heap.size, 0, none⟩ (.int .i64 K)).setCell ⟨w.heap.size, 1, none⟩ (.slice none 0 0))) := by
              refine ⟨hA2.trans ha3 (fun i hi hc => by omega), K, none, 0, 0, fun _ => False, rfl, TOwn.none, fun i hi => hi.elim, hR2.aside ha3 (fun hc => hRz hc.symm)⟩
            have HZ3 := Lib.hid hz3
            rw [← hW2, ← hW1] at y0 y1 v0 v1 HP HZ3
            clear hz3 ha3 hz2 hb2 hR2 hA2 ht2 hW2 hz1 hAw hA1 hR1 hW1 hra hll hle HR' hlr hr HR HZ HBW HX ha
            go_wp2
            refine bodyPost_ret (v := .agg #[.int .i64 K, .slice none 0 0]) (results_cell_row rfl _ _ w.heap.size _ _ _ _ rfl HZ3.out Tryz.underlying24 rfl (by kernel_rfl)) rfl ?_
            rw [HXe.out]
            exact HP.out
          · have b2 : (6 : Int) ≤ K := by omega
            have b3 : decide ((6 : Int) ≤ K) = true := decide_eq_true b2
            have HXe : Hid (X = match Tx.must [40] r with
                | .error e => .error e
                | .ok r => match Tx.pty f r with
                  | .error e => .error e
                  | .ok (t, r) => match Tx.must [41] r with
                    | .error e => .error e
                    | .ok r => .ok (⟨K, [t]⟩, r)) := by
              show X = _
              rw [HX.out, Tx.pty, ← HWD.out, ← HK.out, if_neg hK0, if_neg hK6, ← hr]
              rfl
            have hWs : W1.heap.size = wr.heap.size := by rw [← hW1]; simp only [World.setCell, Array.size_modify]
            rw [hWs] at ht2
            have hzw : w.heap.size < wr.heap.size := blk_lt HZ.out
            have HM := Lib.hid (refMust21 hR2 ⟨#[40]⟩ (by decide))
            have em : (ByteArray.mk #[40]).data.toList = [40] := rfl
            rw [em] at HM
            have HA2 := Lib.hid hA2
            have HZ2 := Lib.hid hz2
            have HT2 := Lib.hid ht2
            have HN : Hid (∀ w', Aside (fun k => k = R) W2 w' → w'.heap[w.heap.size]? = some (.cells #[.int .i64 0, .slice none 0 0] 24) ∧ w'.heap[wr.heap.size]? = some (.cells #[.int .i64 K, .slice none 0 0] 24) ∧ Aside (fun k => k = R) w w') := fun w' q => by
              refine ⟨(q.block w.heap.size (blk_lt hz2) hRz).trans hz2, (q.block wr.heap.size (blk_lt ht2) (by have := HRl.out; omega)).trans ht2, hA2.trans q (fun _ _ h => h)⟩
            have HMb : Hid (∀ w', Hid (RdX21 w' R S (Tx.must [40] r) ∧ Aside (fun k => k = R) W2 w') → True) := fun _ _ => trivial
            rw [← hW2, ← hW1] at HM HN
            clear hz2 hb2 hR2 hA2 ht2 hW2 hz1 hAw hA1 hR1 hW1 hra hll hle HR' hlr hr HR HZ HBW HX ha HA2 HZ2 HT2 HMb em hWs
            go_wp2_with fail
            refine HM.out.mono ?_
            rintro e w3 ⟨rfl, hq1, hq2⟩
            obtain ⟨hz3, ht3, hA3⟩ := HN.out w3 hq2
            clear HM HN hq2
            cases hm : Tx.must [40] r with
            | error em =>
              obtain ⟨e, n⟩ := em
              rw [hm] at hq1 HXe
              have hq1 : Bad21 w3 R S e n := hq1
              have HXe : Hid (X = .error (e, n)) := HXe
              have c2 := hq1.cell2
              have he := hq1.bad
              have b4 : ((e : Int) == 0) = false := by rw [beq_eq_false_iff_ne]; omega
              have b5 : (e == 0) = false := by rw [beq_eq_false_iff_ne]; exact he
              have HB := Lib.hid (refMustBad21 hq1 ⟨#[41]⟩ (by decide))
              have y0 : w3.cell? ⟨w.heap.size, 0, none⟩ = some (.int .i64 0) := blk_cell hz3 0
              have y1 : w3.cell? ⟨w.heap.size, 1, none⟩ = some (.slice none 0 0) := blk_cell hz3 1
              have v0 := blk_free hz3 0
              have v1 := blk_free hz3 1
              have x0 : w3.cell? ⟨wr.heap.size, 0, none⟩ = some (.int .i64 K) := blk_cell ht3 0
              have x1 : w3.cell? ⟨wr.heap.size, 1, none⟩ = some (.slice none 0 0) := blk_cell ht3 1
              obtain ⟨hz4, ha4⟩ := set_two hz3 (.int .i64 K) (.slice none 0 0) rfl
              have HZ4 := Lib.hid hz4
              have HP : Hid (One21 w R S (.error (e, n)) (.returned (.agg #[.int .i64 K, .slice none 0 0])) ((w3.setCell ⟨w.heap.size, 0, none⟩ (.int .i64 K)).setCell ⟨w.heap.size, 1, none⟩ (.slice none 0 0))) := by
                refine ⟨hA3.trans ha4 (fun i hi hc => by omega), K, none, 0, 0, rfl, hq1.aside ha4 (fun hc => hRz hc.symm)⟩
              have HC2 := Lib.hid c2
              clear hz4 ha4 hz3 ht3 hA3 hq1 hm he
              go_wp2_with fail
              refine HB.out.mono ?_
              rintro e2 w4 ⟨rfl, hw4⟩
              subst hw4
              go_wp2
              refine bodyPost_ret (v := .agg #[.int .i64 K, .slice none 0 0]) (results_cell_row rfl _ _ w.heap.size _ _ _ _ rfl HZ4.out Tryz.underlying24 rfl (by kernel_rfl)) rfl ?_
              rw [HXe.out]
              exact HP.out
            | ok r1 =>
              rw [hm] at hq1 HXe
              have hq1 : Rd21 w3 R S r1 := hq1
              have HXe : Hid (X = match Tx.pty f r1 with
                  | .error e => .error e
                  | .ok (t, r) => match Tx.must [41] r with
                    | .error e => .error e
                    | .ok r => .ok (⟨K, [t]⟩, r)) := HXe
              have c2 : w3.cell? ⟨R, 2, none⟩ = some (.int .i64 0) := hq1.cell 2
              have HQ := Lib.hid hq1
              have HZ3 := Lib.hid hz3
              have HT3 := Lib.hid ht3
              have HA3 := Lib.hid hA3
              clear hm hq1 hz3 ht3 hA3
              have hdp := HDP.out
              have e5 : (dp : Int) + 1 = ((5 - f : Nat) : Int) := by omega
              have HO := Lib.hid (refOne21 f w3 r1 (by omega) HQ.out)
              rw [← e5] at HO
              obtain ⟨Y, hY⟩ : ∃ Y, Y = Tx.pty f r1 := ⟨_, rfl⟩
              rw [← hY] at HO HXe
              clear hdp e5 hY
              go_wp2_with fail
              refine HO.out.mono ?_
              intro e w4 hO
              have hsh : ∃ k p n c, e = .returned (.agg #[.int .i64 k, .slice p n c]) := by
                obtain ⟨_, hO⟩ := hO
                cases Y with
                | ok y => obtain ⟨t, l⟩ := y; obtain ⟨k, p, n, c, F, q, _⟩ := hO; exact ⟨k, p, n, c, q⟩
                | error y => obtain ⟨t, l⟩ := y; obtain ⟨k, p, n, c, q, _⟩ := hO; exact ⟨k, p, n, c, q⟩
              obtain ⟨k, p, n, c, rfl⟩ := hsh
              have hA4 := hO.1
              have hz4 : w4.heap[w.heap.size]? = some (.cells #[.int .i64 0, .slice none 0 0] 24) := (hA4.block w.heap.size (blk_lt HZ3.out) hRz).trans HZ3.out
              have ht4 : w4.heap[wr.heap.size]? = some (.cells #[.int .i64 K, .slice none 0 0] 24) := (hA4.block wr.heap.size (blk_lt HT3.out) (by have := HRl.out; omega)).trans HT3.out
              have HO4 := Lib.hid hO
              have HA4 := Lib.hid hA4
              have HZ4 := Lib.hid hz4
              have HT4 := Lib.hid ht4
              have x0 : w4.cell? ⟨wr.heap.size, 0, none⟩ = some (.int .i64 K) := blk_cell ht4 0
              have x1 : w4.cell? ⟨wr.heap.size, 1, none⟩ = some (.slice none 0 0) := blk_cell ht4 1
              have v0 := blk_free ht4 0
              have v1 := blk_free ht4 1
              have hlt4 : wr.heap.size < w4.heap.size := blk_lt ht4
              have HC : Hid (Calls Tryz.prog 50 #[.pointer (some ⟨R, 0, none⟩), .string ⟨#[41]⟩] ((w4.setCell ⟨wr.heap.size, 1, none⟩ (.slice (some ⟨w4.heap.size, 0, none⟩) 1 1)).alloc (.cells #[.int .i64 k, .slice p n c] 24)) fun e w6 => e = .returned (.tuple #[]) ∧ w6.heap[w.heap.size]? = some (.cells #[.int .i64 0, .slice none 0 0] 24) ∧ w6.heap[wr.heap.size]? = some (.cells #[.int .i64 K, .slice (some ⟨w4.heap.size, 0, none⟩) 1 1] 24) ∧ ∀ w7, Aside (fun k => k = w.heap.size) w6 w7 → One21 w R S X (.returned (.agg #[.int .i64 K, .slice (some ⟨w4.heap.size, 0, none⟩) 1 1])) w7) :=
                close21 HRl.out hzw HT3.out HA3.out HA4.out hz4 ht4 HXe.out hO
              clear hO hA4 hz4 ht4 HO HO4 HA4 HA3 HXe
              go_wp2_with fail
              refine HC.out.mono ?_
              rintro e w6 ⟨rfl, hz6, ht6, hl6⟩
              have y0 : w6.cell? ⟨w.heap.size, 0, none⟩ = some (.int .i64 0) := blk_cell hz6 0
              have y1 : w6.cell? ⟨w.heap.size, 1, none⟩ = some (.slice none 0 0) := blk_cell hz6 1
              have s0 := blk_free hz6 0
              have s1 := blk_free hz6 1
              have d0 : w6.cell? ⟨wr.heap.size, 0, none⟩ = some (.int .i64 K) := blk_cell ht6 0
              have d1 : w6.cell? ⟨wr.heap.size, 1, none⟩ = some (.slice (some ⟨w4.heap.size, 0, none⟩) 1 1) := blk_cell ht6 1
              obtain ⟨hz7, ha7⟩ := set_two hz6 (.int .i64 K) (.slice (some ⟨w4.heap.size, 0, none⟩) 1 1) rfl
              have HZ7 := Lib.hid hz7
              have HP := Lib.hid (hl6 _ ha7)
              clear hz7 ha7 hl6 hz6 ht6 HC
              go_wp2
              refine bodyPost_ret (v := .agg #[.int .i64 K, .slice (some ⟨w4.heap.size, 0, none⟩) 1 1]) (results_cell_row rfl _ _ w.heap.size _ _ _ _ rfl HZ7.out Tryz.underlying24 rfl (by kernel_rfl)) rfl ?_
              exact HP.out
end
end Go.Proofs.YtpjcmahlnnglcaaGreatDoor

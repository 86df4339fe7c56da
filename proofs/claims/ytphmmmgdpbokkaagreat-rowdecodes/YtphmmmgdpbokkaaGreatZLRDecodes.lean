/- RowDecodes over what the laws ask of package row. -/
import Derived.Test.YtphmmmgdpbokkaaGreatZLRReads
import Derived.Test.YtphmmmgdpbokkaaGreatZWSpoilR
import Derived.Test.YtphmmmgdpbokkaaGreatM26
namespace Go.Proofs.YtphmmmgdpbokkaaGreat
open Go.RowKit

attribute [local go_sem] run_store_float

theorem RowA.own {w w' : World} {r : Except Nat (List V × Nat)} {e : Ending} (h : RowA w r e w') : ∃ q c, e = .returned (.tuple #[.agg #[.slice q (rOf r).length c], .int .i64 (nOf r : Nat), .int .i64 (eOf r : Nat)]) ∧ VOwn w' (fun k => w.heap.size ≤ k ∧ k < w'.heap.size) (cells5 0 0 0 ⟨#[]⟩ q (rOf r).length c) (.mk 0 0 0 ⟨#[]⟩ (rOf r)) ∧ Below w.heap.size w w' := by
  cases r with
  | error er =>
    obtain ⟨rfl, hb⟩ := h
    exact ⟨none, 0, rfl, .none, hb⟩
  | ok vk =>
    obtain ⟨v, k⟩ := vk
    obtain ⟨q, c, rfl, hv, hb⟩ := h
    exact ⟨q, c, rfl, hv, hb⟩

set_option maxRecDepth 100000 in
set_option maxHeartbeats 4000000 in
theorem rowDecodes_any {I : World → Prop} (K : RowsOk I) (s : List Col) (p : Option Addr) (cp : Nat) (l : List UInt8) (q : Option Addr) (d : Nat) (a : Int) (w : World) (hS : SchL w p cp s) (hl : l.length ≤ 140737488351232) (hld : l.length ≤ d) (hat : At w q l) (ha1 : -9223372036854775808 ≤ a) (ha2 : a ≤ 9223372036854775807) (hI : I w) :
    Calls Tryz.prog 4 #[.agg #[.slice p s.length cp], .slice q l.length d, .int .i64 a] w fun e w' => e = .returned (.bool true) ∧ Below w.heap.size w w' := by
  have hbw0 : Below w.heap.size w (w.alloc (.cells #[.slice p s.length cp] 24)) := (Below.refl _ _).alloc (Nat.le_refl _) _
  obtain ⟨qi, di, W, hrun, hW, _, hd, hB⟩ := copy_run q d l (w.alloc (.cells #[.slice p s.length cp] 24)) (by omega) (hat.on hbw0)
  have y0 : W.cell? ⟨w.heap.size, 0, none⟩ = some (.slice p s.length cp) := cell_on hB (by simp)
  have ew0 : (w.alloc (.cells #[.slice p s.length cp] 24)).heap.size = w.heap.size + 1 := by simp
  rw [ew0] at hrun
  have HR := Lib.hid (AppRun.mk hrun)
  clear ew0
  have B0 := Lib.hid (hbw0.trans (hB.mono hbw0.size))
  have hlt0 : w.heap.size < W.heap.size := by have := hB.size; simp at this; omega
  have Q0 := Lib.hid hW
  have HAt := Lib.hid hat
  obtain ⟨er, her⟩ : ∃ n, n = eOf (Rw.read s l a) := ⟨_, rfl⟩
  obtain ⟨nx, hnx⟩ : ∃ n, n = nOf (Rw.read s l a) := ⟨_, rfl⟩
  obtain ⟨vs, hvs⟩ : ∃ n, n = rOf (Rw.read s l a) := ⟨_, rfl⟩
  have HD : Hid (∀ w', Below w.heap.size w w' → Calls Tryz.prog 11 #[.agg #[.slice p s.length cp], .slice q l.length d, .int .i64 a] w' fun e w'' => ∃ p1 c1, e = .returned (.tuple #[.agg #[.slice p1 vs.length c1], .int .i64 (nx : Nat), .int .i64 (er : Nat)]) ∧ VOwn w'' (fun k => w'.heap.size ≤ k ∧ k < w''.heap.size) (cells5 0 0 0 ⟨#[]⟩ p1 vs.length c1) (.mk 0 0 0 ⟨#[]⟩ vs) ∧ Below w'.heap.size w' w'') := fun w' hb =>
    (K.decode s p cp l q d a w' (hS.on hb) hl hld (hat.on hb) ha1 ha2 (K.on hI hb)).mono fun e w'' h => by
      obtain ⟨p1, c1, h1, h2, h3⟩ := h.own
      rw [← her, ← hnx, ← hvs] at h1
      rw [← hvs] at h2
      exact ⟨p1, c1, h1, h2, h3⟩
  have HD2 : Hid (∀ w', Below w.heap.size w w' → At w' (some qi) l → Calls Tryz.prog 12 #[.agg #[.slice p s.length cp], .slice (some qi) l.length di, .int .i64 a] w' fun e w'' => ∃ p1 c1, e = .returned (.tuple #[.agg #[.slice p1 vs.length c1], .int .i64 (nx : Nat), .int .i64 (er : Nat)]) ∧ VOwn w'' (fun k => w'.heap.size ≤ k ∧ k < w''.heap.size) (cells5 0 0 0 ⟨#[]⟩ p1 vs.length c1) (.mk 0 0 0 ⟨#[]⟩ vs) ∧ Below w'.heap.size w' w'') := fun w' hb ha =>
    (refDecode8 s p cp l (some qi) di a hl hd w' hS.len hS.cap (hS.cols.on hb) hS.wf ha ha1 ha2).mono fun e w'' h => by
      obtain ⟨p1, c1, h1, h2, h3⟩ := h.own
      rw [← her, ← hnx, ← hvs] at h1
      rw [← hvs] at h2
      exact ⟨p1, c1, h1, h2, h3⟩
  have HRw : Hid (∀ p1 p2 c1 c2 w', VLies w' (cells5 0 0 0 ⟨#[]⟩ p1 vs.length c1) (.mk 0 0 0 ⟨#[]⟩ vs) → VLies w' (cells5 0 0 0 ⟨#[]⟩ p2 vs.length c2) (.mk 0 0 0 ⟨#[]⟩ vs) → Calls Tryz.prog 13 #[.agg #[.slice p1 vs.length c1], .agg #[.slice p2 vs.length c2]] w' fun e w'' => e = .returned (.bool true) ∧ Below w'.heap.size w' w'') := fun p1 p2 c1 c2 w' h1 h2 => by
    have := rows8 vs vs p1 p2 c1 c2 w' h1 h2
    rw [show Rw.exact vs vs = true from (V.exact_iff _ _).2 rfl] at this
    exact this
  have HLv := Lib.hid (fun w' (hb : Below w.heap.size w w') => rowLive_ok K w' (K.on hI hb))
  have ge : ((er : Int) == (er : Int)) = true := by simp
  have gn : ((nx : Int) == (nx : Int)) = true := by simp
  clear hI hat hW hB hrun hd her hnx hvs K hS hbw0
  go_enter Tryz.func4, Tryz.ntmps4
  go_wp2_with (first | (at_builtin; refine wpList_append_ran HR.out rfl rfl rfl rfl ?_))
  refine (HD.out W B0.out).mono ?_
  rintro e w1 ⟨p1, c1, rfl, hz1, hb1⟩
  have y1 := cell_on hb1 y0
  obtain ⟨W1, hW1⟩ : ∃ W1, W1 = w1.alloc (.cells #[.slice p1 vs.length c1] 27) := ⟨_, rfl⟩
  have hbW1 : Below w1.heap.size w1 W1 := by rw [hW1]; exact (Below.refl _ _).alloc (Nat.le_refl _) _
  have s1 : W1.cell? ⟨w1.heap.size, 0, none⟩ = some (.slice p1 vs.length c1) := by rw [hW1]; simp
  have hlt1 : w1.heap.size < W1.heap.size := by rw [hW1]; simp
  have B1 := Lib.hid (B0.out.trans ((hb1.trans (hbW1.mono hb1.size)).mono B0.out.size))
  have Q1 := Lib.hid ((Q0.out.on hb1).on hbW1)
  have Z1 := Lib.hid (hz1.under hbW1 (fun k hk => hk.2))
  have S1 := Lib.hid s1
  have yW1 := cell_on hbW1 y1
  have HW1 := Lib.hid hW1
  have hsW : W.heap.size ≤ w1.heap.size := hb1.size
  have yy : ∀ o, (w1.alloc o).cell? ⟨w.heap.size, 0, none⟩ = some (.slice p s.length cp) := fun o => cell_on ((Below.refl _ _).alloc (Nat.le_refl _) _) y1
  clear hz1 hb1 hbW1 s1 hW1 Q0 y0
  go_wp2_with fail
  rw [← HW1.out]
  clear HW1 yy y1
  refine (HD2.out W1 B1.out Q1.out).mono ?_
  rintro e w2 ⟨p2, c2, rfl, hz2, hb2⟩
  obtain ⟨W2, hW2⟩ : ∃ W2, W2 = w2.alloc (.cells #[.slice p2 vs.length c2] 27) := ⟨_, rfl⟩
  have hbW2 : Below w2.heap.size w2 W2 := by rw [hW2]; exact (Below.refl _ _).alloc (Nat.le_refl _) _
  have t2 : W2.cell? ⟨w2.heap.size, 0, none⟩ = some (.slice p2 vs.length c2) := by rw [hW2]; simp
  have hlt2 : w2.heap.size < W2.heap.size := by rw [hW2]; simp
  have hb12 := hb2.trans (hbW2.mono hb2.size)
  have B2 := Lib.hid (B1.out.trans (hb12.mono B1.out.size))
  have Q2 := Lib.hid ((Q1.out.on hb2).on hbW2)
  have ZS := Lib.hid ((Z1.out.under hb12 (fun k hk => by omega)))
  have ZT := Lib.hid (hz2.under hbW2 (fun k hk => hk.2))
  have s2 := cell_on hb12 S1.out
  have y2 := cell_on hb12 yW1
  have hs12 : W1.heap.size ≤ w2.heap.size := hb2.size
  have HW2 := Lib.hid hW2
  have S2 := Lib.hid s2
  have T2 := Lib.hid t2
  have Y2 := Lib.hid y2
  have HRw2 := Lib.hid (HRw.out p1 p2 c1 c2 W2 ZS.out.lies ZT.out.lies)
  rw [hW2] at s2 t2
  clear hz2 hb2 hbW2 hb12 hW2 Q1 Z1 S1 y2 yW1
  go_wp2_with fail
  rw [← HW2.out]
  clear HW2 s2 t2
  refine HRw2.out.mono ?_
  rintro e w3 ⟨rfl, hb3⟩
  have B3 := Lib.hid (B2.out.trans (hb3.mono B2.out.size))
  have HSm := Lib.hid (same_any q (some qi) d di l l hl w3 (HAt.out.on B3.out) (Q2.out.on hb3))
  have S3 := Lib.hid (cell_on hb3 S2.out)
  have T3 := Lib.hid (cell_on hb3 T2.out)
  have Y3 := Lib.hid (cell_on hb3 Y2.out)
  have ZS3 := Lib.hid (ZS.out.under hb3 (fun k hk => by omega))
  have ZT3 := Lib.hid (ZT.out.under hb3 (fun k hk => by omega))
  have hs3 := hb3.size
  clear hb3 HRw2 S2 T2 Y2 ZS ZT Q2
  go_wp2_with fail
  refine HSm.out.mono ?_
  rintro e w4 ⟨rfl, k4, hw4⟩
  have hb4 : Below w3.heap.size w3 w4 := by rw [hw4]; exact below_drewN (Below.refl _ _) k4
  have hs4 := hb4.size
  have B4 := Lib.hid (B3.out.trans (hb4.mono B3.out.size))
  have S4 := Lib.hid (cell_on hb4 S3.out)
  have T4 := Lib.hid (cell_on hb4 T3.out)
  have Y4 := Lib.hid (cell_on hb4 Y3.out)
  have ZS4 := Lib.hid (ZS3.out.under hb4 (fun k hk => by omega))
  have ZT4 := Lib.hid (ZT3.out.under hb4 (fun k hk => by omega))
  have HSt := Lib.hid (rowS_start ZS4.out (by omega))
  have hvl : (vs.length : Int) ≤ 140737488351232 := by
    obtain ⟨pp, cc, hu2, hl2, -⟩ := ZS4.out.lies.open
    omega
  rw [beq_self_eq_true]
  clear hw4 hb4 HSm S3 T3 Y3 ZS3 ZT3
  go_wp2_with fail
  go_loopw [15, 16] (fun v15 _ wi => ∃ i : Nat, i ≤ vs.length ∧ v15 = .int .i64 i ∧ Hid (Aside (fun k => W.heap.size ≤ k ∧ k < w1.heap.size) w4 wi ∧ (vs = [] ∨ ∃ g off, p1 = some ⟨g, off, none⟩ ∧ RowS wi W.heap.size w1.heap.size g off vs.length i))) (fun v15 _ _ => vs.length - (intOf v15).toNat)
  case atStart => exact ⟨0, Nat.zero_le _, rfl, Aside.refl _ _, HSt.out⟩
  case round =>
    obtain ⟨i, hi, rfl, HL⟩ := hrel
    have HVar : Hid (∀ w', Aside (fun k => W.heap.size ≤ k ∧ k < w1.heap.size) w4 w' → w'.cell? ⟨w1.heap.size, 0, none⟩ = some (.slice p1 vs.length c1)) := fun w' ha => by
      rw [ha.cell (p := ⟨w1.heap.size, 0, none⟩) (show w1.heap.size < w4.heap.size by omega) (show ¬ (W.heap.size ≤ w1.heap.size ∧ w1.heap.size < w1.heap.size) by omega)]
      exact S4.out
    have n0 := HVar.out _ HL.out.1
    by_cases hlt : i < vs.length
    · have hj1 : (i : Int) < (vs.length : Int) := by omega
      rcases HL.out.2 with h | ⟨g, off, rfl, hR⟩
      · rw [h] at hlt; simp at hlt
      obtain ⟨pi, ni, ci, hni, hci, hit⟩ := hR.item i (Nat.le_refl _) hlt
      have HA := Lib.hid HL.out.1
      have HRi := Lib.hid hR
      have HIt := Lib.hid hit
      have HCi := Lib.hid hci
      have hgz : g < w1.heap.size := hR.high
      have hgw : W.heap.size ≤ g := hR.low
      clear HL hR hit
      go_wp2_with fail
      go_loopw [16] (fun v16 wr => ∃ k : Nat, k ≤ ni ∧ v16 = .int .i64 k ∧ Hid (Aside (fun k => W.heap.size ≤ k ∧ k < w1.heap.size) w4 wr ∧ RowS wr W.heap.size w1.heap.size g off vs.length i ∧ wr.cell? ⟨g, off + i * 5 + 4, none⟩ = some (.slice pi ni ci) ∧ ItemsS wr W.heap.size w1.heap.size g pi ni)) (fun v16 _ => ni - (intOf v16).toNat)
      case atStart => exact ⟨0, Nat.zero_le _, rfl, HA.out, HRi.out, HCi.out, HIt.out⟩
      case round =>
        obtain ⟨k, hk, rfl, HK⟩ := hrel
        have n1 := HVar.out _ HK.out.1
        have x4 := HK.out.2.2.1
        clear n0 hci
        by_cases hlk : k < ni
        · have hk1 : (k : Int) < (ni : Int) := by omega
          rcases HK.out.2.2.2 with h | ⟨g', o', rfl, hg1, hg2, hg3, hsf⟩
          · omega
          obtain ⟨⟨z0, c0⟩, f0⟩ := hsf k hlk 0 (by omega)
          obtain ⟨⟨z1, c1'⟩, f1⟩ := hsf k hlk 1 (by omega)
          obtain ⟨⟨z2, c2'⟩, f2⟩ := hsf k hlk 2 (by omega)
          obtain ⟨⟨z3, c3⟩, f3⟩ := hsf k hlk 3 (by omega)
          obtain ⟨⟨z4, c4⟩, f4⟩ := hsf k hlk 4 (by omega)
          rw [Nat.add_zero] at c0 f0
          have HN : Hid (Aside (fun k => W.heap.size ≤ k ∧ k < w1.heap.size) w4 (over5 wr g' (o' + k * 5) 77) ∧ RowS (over5 wr g' (o' + k * 5) 77) W.heap.size w1.heap.size g off vs.length i ∧ (over5 wr g' (o' + k * 5) 77).cell? ⟨g, off + i * 5 + 4, none⟩ = some (.slice (some ⟨g', o', none⟩) ni ci) ∧ ItemsS (over5 wr g' (o' + k * 5) 77) W.heap.size w1.heap.size g (some ⟨g', o', none⟩) ni) := by
            have hsk := HK.out.2.1.size
            refine ⟨HK.out.1.trans (over5_aside _ _ _ _) (fun j _ hj => by rw [hj]; exact ⟨hg1, hg2⟩), HK.out.2.1.inner hg3 (by omega), ?_, HK.out.2.2.2.aside _ _ _⟩
            rw [(over5_aside wr g' (o' + k * 5) 77).cell (p := ⟨g, off + i * 5 + 4, none⟩) (show g < wr.heap.size by omega) (show ¬ g = g' from fun e => hg3 e.symm)]
            exact x4
          unfold over5 at HN
          clear hsf HK
          go_wp2
          go_roundw
          case rel => exact ⟨k + 1, by omega, by go_num, HN⟩
          case measure => simp [intOf]; omega
        · have hkn : ¬ (k : Int) < (ni : Int) := by omega
          obtain ⟨⟨z0, c0⟩, f0⟩ := HK.out.2.1.soft i hlt 0 (by omega)
          obtain ⟨⟨z1, c1'⟩, f1⟩ := HK.out.2.1.soft i hlt 1 (by omega)
          obtain ⟨⟨z2, c2'⟩, f2⟩ := HK.out.2.1.soft i hlt 2 (by omega)
          obtain ⟨⟨z3, c3⟩, f3⟩ := HK.out.2.1.soft i hlt 3 (by omega)
          have f4 := (HK.out.2.1.soft i hlt 4 (by omega)).2
          rw [Nat.add_zero] at c0 f0
          have HN : Hid (Aside (fun k => W.heap.size ≤ k ∧ k < w1.heap.size) w4 (over5 wr g (off + i * 5) 78) ∧ (vs = [] ∨ ∃ g2 off2, some (⟨g, off, none⟩ : Addr) = some ⟨g2, off2, none⟩ ∧ RowS (over5 wr g (off + i * 5) 78) W.heap.size w1.heap.size g2 off2 vs.length (i + 1))) := ⟨HK.out.1.trans (over5_aside _ _ _ _) (fun j _ hj => by rw [hj]; exact ⟨hgw, hgz⟩), .inr ⟨g, off, rfl, HK.out.2.1.outer⟩⟩
          unfold over5 at HN
          clear HK
          go_wp2
          go_roundw
          case rel => exact ⟨i + 1, by omega, by go_num, HN⟩
          case measure => simp [intOf]; omega
    · have hjn : ¬ (i : Int) < (vs.length : Int) := by omega
      have ha5 := HL.out.1
      have hb5 : Below w.heap.size w4 wr := ha5.below B4.out.size (fun k hk => by omega)
      have B5 := Lib.hid (B4.out.trans hb5)
      have T5 : Hid (wr.cell? ⟨w2.heap.size, 0, none⟩ = some (.slice p2 vs.length c2)) := by
        show _ = _
        rw [ha5.cell (p := ⟨w2.heap.size, 0, none⟩) (show w2.heap.size < w4.heap.size by omega) (show ¬ (W.heap.size ≤ w2.heap.size ∧ w2.heap.size < w1.heap.size) by omega)]
        exact T4.out
      have y5 : wr.cell? ⟨w.heap.size, 0, none⟩ = some (.slice p s.length cp) := by
        rw [ha5.cell (p := ⟨w.heap.size, 0, none⟩) (show w.heap.size < w4.heap.size by omega) (show ¬ (W.heap.size ≤ w.heap.size ∧ w.heap.size < w1.heap.size) by omega)]
        exact Y4.out
      have ZT5 := Lib.hid (ZT4.out.aside ha5 (fun k h1 h2 => by omega))
      have hs5 := ha5.size
      clear HL ha5 hb5
      go_wp2_with fail
      refine (HD.out wr B5.out).mono ?_
      rintro e w6 ⟨p6, c6, rfl, hz6, hb6⟩
      obtain ⟨W6, hW6⟩ : ∃ W6, W6 = w6.alloc (.cells #[.slice p6 vs.length c6] 27) := ⟨_, rfl⟩
      have hbW6 : Below w6.heap.size w6 W6 := by rw [hW6]; exact (Below.refl _ _).alloc (Nat.le_refl _) _
      have u6 : W6.cell? ⟨w6.heap.size, 0, none⟩ = some (.slice p6 vs.length c6) := by rw [hW6]; simp
      have hb56 := hb6.trans (hbW6.mono hb6.size)
      have B6 := Lib.hid (B5.out.trans (hb56.mono B5.out.size))
      have ZU := Lib.hid (hz6.under hbW6 (fun k hk => hk.2))
      have ZT6 := Lib.hid (ZT5.out.under hb56 (fun k hk => by omega))
      have U6 := Lib.hid u6
      have T6 := Lib.hid (cell_on hb56 T5.out)
      have HW6 := Lib.hid hW6
      clear hz6 hb6 hbW6 u6 hW6 hb56 T5 ZT5 y5 n0
      go_wp2_with fail
      rw [← HW6.out]
      clear HW6
      refine (HLv.out W6 B6.out).mono ?_
      rintro e w7 ⟨rfl, hb7⟩
      have B7 := Lib.hid (B6.out.trans (hb7.mono B6.out.size))
      have u7 := cell_on hb7 U6.out
      have t7 := cell_on hb7 T6.out
      have HRw7 := Lib.hid (HRw.out p6 p2 c6 c2 w7 (ZU.out.lies.on hb7) (ZT6.out.lies.on hb7))
      clear hb7 U6 T6 ZU ZT6
      go_wp2_with fail
      refine HRw7.out.mono ?_
      rintro e w8 ⟨rfl, hb8⟩
      have B8 := Lib.hid (B7.out.trans (hb8.mono B7.out.size))
      clear hb8 HRw7 u7 t7
      go_wp2
      go_ret
      exact ⟨rfl, B8.out⟩
end Go.Proofs.YtphmmmgdpbokkaaGreat

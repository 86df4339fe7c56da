/- RepairFirst, walked. -/
import Derived.Test.YtmgcfkpmknogaaaGreatDoorL15A
namespace Go.Proofs.YtmgcfkpmknogaaaGreatDoor
open Go.RowKit Go.Maps

theorem turnN (a : Int) (L : Nat) (hL : 0 < L) : ∃ m : Nat, m < L ∧ (a.tmod (L : Int) + (L : Int)).tmod (L : Int) = (m : Int) ∧ a.tmod (L : Int) < (L : Int) ∧ -(L : Int) < a.tmod (L : Int) := by
  have h1 := Int.tmod_lt_of_pos a (show (0 : Int) < (L : Int) by omega)
  have h2 := Int.lt_tmod_of_pos a (show (0 : Int) < (L : Int) by omega)
  have h3 : (a.tmod (L : Int) + (L : Int)).tmod (L : Int) = (a.tmod (L : Int) + (L : Int)) % (L : Int) := Int.tmod_eq_emod_of_nonneg (by omega)
  have h4 := Int.emod_nonneg (a.tmod (L : Int) + (L : Int)) (show (L : Int) ≠ 0 by omega)
  have h5 := Int.emod_lt_of_pos (a.tmod (L : Int) + (L : Int)) (show (0 : Int) < (L : Int) by omega)
  exact ⟨((a.tmod (L : Int) + (L : Int)) % (L : Int)).toNat, by omega, by rw [h3]; omega, h1, h2⟩
/-- while the frames are looked at: behind i frames -/
structure FsI (w3 wr : World) (B g : Nat) (v : Value) (l : List UInt8) (i : Nat) (Y : Sc.Pos) : Prop where
  goes : Sc.goes l i = some Y
  up : UpD wr B g v l (30000000000 + 2202 * i)
  aside : Aside (fun i => i = g) w3 wr

set_option maxRecDepth 100000 in
set_option maxHeartbeats 8000000 in
theorem repairFirst_any (LIVE : Live15) (p : Option Addr) (c : Nat) (l : List UInt8) (hl : l.length ≤ 140737488351232) (hc : l.length ≤ c) (a : Int) (w : World) (hv : Hv w) (he : He w) (hA : At w p l) :
    Calls Tryz.prog 6 #[.slice p l.length c, .int .i64 a] w fun e w' => e = .returned (.bool true) ∧ Below w.heap.size w w' := by
  have HLv := Lib.hid (LIVE w hv he)
  have HHv := Lib.hid hv
  have HHe := Lib.hid he
  have HA := Lib.hid hA
  clear hv he hA LIVE
  go_enter Tryz.func6, Tryz.ntmps6
  go_wp2_with fail
  refine HLv.out.mono ?_
  rintro e w1 ⟨rfl, hb1⟩
  have HB1 := Lib.hid hb1
  clear hb1 HLv
  by_cases hbig : 100000 < l.length
  · have g0 : (100000 : Int) < (l.length : Int) := by omega
    clear hbig
    go_wp2
    go_ret
    exact ⟨rfl, HB1.out⟩
  have g0 : ¬ (100000 : Int) < (l.length : Int) := by omega
  have HA1 := Lib.hid (HA.out.on HB1.out)
  have HLd := Lib.hid (laid15 p c l (by omega) w1 HA1.out)
  have hll : l.length ≤ 100000 := by omega
  have hG1 := (HHv.out.next HB1.out).lt
  have HV1 := Lib.hid (HHv.out.next HB1.out)
  have HE1 := Lib.hid (HHe.out.on HB1.out)
  clear hbig
  go_wp2_with fail
  refine HLd.out.mono ?_
  rintro e w2 ⟨g, r, v, u, x, k, rfl, h2⟩
  have hU := two_up h2
  have HB2 := Lib.hid h2.below
  obtain ⟨J, X, er, hgo, hst⟩ := Rp.ends l
  have HW := Lib.hid (hU.whole (G := fun i => i = g ∨ v.ownBlock = some i) (by omega) (by omega) (HV1.out.next HB2.out) hG1 (fun i hi => hi) (fun i hi => by
      rcases hi with hi | hi
      · rw [hi]; exact hU.lt.2
      · exact (hU.own i hi).2) hgo hst)
  have HU := Lib.hid hU
  have HGo := Lib.hid hgo
  have HSt := Lib.hid hst
  have hXl := (Sc.goes_good hgo).2.1
  obtain ⟨E, hE⟩ : ∃ E, E = X.at_ := ⟨_, rfl⟩
  rw [← hE] at HW hXl
  have HE := Lib.hid hE
  clear h2 hU hgo hst hE HLd
  go_wp2_with fail
  refine HW.out.mono ?_
  rintro e w3 ⟨rfl, -, hU3, ha3⟩
  have hB3 := HB2.out.trans (HU.out.belowG ha3 HB2.out.size)
  have HU3 := Lib.hid (hU3.more (m := 30000000000) (by omega))
  have HB3 := Lib.hid hB3
  clear hU3 ha3 hB3 HW HU HB2
  by_cases h140 : er = 140
  case neg =>
    have g1 : ((er : Int) != 140) = true := by rw [bne_iff_ne]; omega
    go_wp2
    go_ret
    exact ⟨rfl, HB1.out.trans (HB3.out.mono HB1.out.size)⟩
  have g1 : ((er : Int) != 140) = false := by rw [bne_eq_false_iff_eq]; omega
  by_cases hl0 : l.length = 0
  · have g2 : ((l.length : Int) == 0) = true := by rw [beq_iff_eq]; omega
    have HZ := Lib.hid hl0
    clear hl0
    go_wp2
    go_ret
    exact ⟨rfl, HB1.out.trans (HB3.out.mono HB1.out.size)⟩
  have g2 : ((l.length : Int) == 0) = false := by rw [beq_eq_false_iff_ne]; omega
  have hEl : E = l.length := by rw [HE.out]; exact Sc.step_ne (by rw [← HE.out]; exact hXl) HSt.out h140
  obtain ⟨N, hN, hmm, hq1, hq2⟩ := turnN a l.length (by omega)
  obtain ⟨j, xx, zz, hjJ, hgj, hxN, hgz, hNz⟩ := Rp.ahead (n := N) HGo.out (by rw [← HE.out]; omega)
  obtain ⟨f0, hat0, -⟩ := Rp.goes_lt hgj hgz
  obtain ⟨rr, e2, hf1, hf2, hf3⟩ := Rp.first (n := N) (by omega) hgj hxN hat0 hNz
  have hkj := Rp.kept_le hgj
  have HJ : Hid (j < J ∧ Sc.goes l j = some xx ∧ xx.at_ ≤ N ∧ Sc.goes l (j + 1) = some zz ∧ N < zz.at_) := ⟨hjJ, hgj, hxN, hgz, hNz⟩
  have HF : Hid (Sc.goes (l.take N) j = some ⟨xx.at_, xx.wk, rr⟩ ∧ Sc.step (l.take N) ⟨xx.at_, xx.wk, rr⟩ = .error e2 ∧ Rp.look (l.take N) j xx.at_ e2 = .ok (Rp.kept l j)) := ⟨hf1, hf2, hf3⟩
  have HEl := Lib.hid hEl
  have hL0 : (l.length : Int) ≠ 0 := by omega
  have hLI : (l.length : Int) ≤ 100000 := by omega
  have hLp : 0 < (l.length : Int) := by omega
  have hq1' : a.tmod (l.length : Int) < 100000 := by omega
  have hq2' : -100000 < a.tmod (l.length : Int) := by omega
  have hNI : (N : Int) ≤ 100000 := by omega
  have HI3 : Hid (FsI w3 w3 w1.heap.size g v l 0 Sc.begin_) := ⟨rfl, HU3.out, Aside.refl _ _⟩
  have hs13 := HB3.out.size
  clear hXl h140 hl0 hEl hjJ hgj hxN hgz hNz hat0 hf1 hf2 hf3 HU3
  go_wp2_with fail
  clear hq1 hq2 hq1' hq2' hmm hL0 hLp
  go_loopw [11, 12] (fun v11 v12 wr => ∃ i Y, i ≤ J ∧ v11 = .int .i64 (Rp.kept l (min i j) : Nat) ∧ v12 = .int .i64 (Sc.Pos.at_ Y : Nat) ∧ Hid (FsI w3 wr w1.heap.size g v l i Y)) (fun _ v12 _ => l.length - (intOf v12).toNat)
  case atStart => exact ⟨0, Sc.begin_, Nat.zero_le _, by rw [Nat.zero_min]; rfl, rfl, HI3⟩
  case round =>
    obtain ⟨i, Y, hiJ, rfl, rfl, HI⟩ := hrel
    obtain ⟨hgd, hat, h8, hrd⟩ := Sc.goes_good HI.out.goes
    obtain ⟨A, hA⟩ : ∃ A, A = Y.at_ := ⟨_, rfl⟩
    obtain ⟨Wn, hWn⟩ : ∃ Wn, Wn = Rp.kept l (min i j) := ⟨_, rfl⟩
    rw [← hA] at hat h8
    rw [← hA, ← hWn]
    have HAt := Lib.hid hA
    have HWn := Lib.hid hWn
    have hAI : (A : Int) ≤ 100000 := by omega
    have hBr : Below w1.heap.size w3 wr := HI.out.aside.below hs13 (fun k hk hc => by have := HI.out.up.lt; omega)
    have hWl : Wn ≤ l.length := by
      obtain ⟨y, hy⟩ := Rp.goes_pre (j := min i j) HI.out.goes (by omega)
      rw [hWn]
      have := Rp.kept_le hy
      have := (Sc.goes_good hy).2.1
      omega
    have hWI : (Wn : Int) ≤ 100000 := by omega
    clear hA hWn hgd hrd
    by_cases hlt : i < J
    · obtain ⟨Z, hZ⟩ := Rp.goes_pre (j := i + 1) HGo.out (by omega)
      have hle := Rp.goes_le HI.out.goes HGo.out (Nat.le_of_lt hlt)
      rw [← HAt.out, ← HE.out] at hle
      have g3 : (A : Int) < (l.length : Int) := by have := HEl.out; omega
      obtain ⟨f, hat2, hlt2⟩ := Rp.goes_lt HI.out.goes hZ
      have hks := Rp.kept_succ HI.out.goes hat2
      have hZl := (Sc.goes_good hZ).2.1
      have hZN : Z.at_ ≤ N ↔ i < j := by
        constructor
        · intro h
          rcases Nat.lt_or_ge i j with h1 | h1
          · exact h1
          · have := Rp.goes_le HJ.out.2.2.2.1 hZ (by omega)
            have := HJ.out.2.2.2.2
            omega
        · intro h
          have := Rp.goes_le hZ HJ.out.2.1 (by omega)
          have := HJ.out.2.2.1
          omega
      have hC := HI.out.up.at (by omega) (by omega) ((HV1.out.next HB3.out).on hBr hG1) hG1 (Y.at_ : Nat)
      rw [hat2, ← HAt.out] at hC
      obtain ⟨C, hCz⟩ : ∃ C, C = Z.at_ := ⟨_, rfl⟩
      rw [← hCz] at hC hZl hlt2 hZN hks
      rw [← HAt.out] at hlt2
      have HC := Lib.hid hC
      have HZ := Lib.hid hZ
      have HCz := Lib.hid hCz
      have HKs := Lib.hid hks
      have HZN := Lib.hid hZN
      have hCI : (C : Int) ≤ 100000 := by omega
      clear hC hZ hCz hks hat2 hle hBr hZN
      go_wp2_with fail
      refine HC.out.mono ?_
      rintro e w8 ⟨hans, hU8, ha8⟩
      obtain ⟨u8, rfl, hfo⟩ : ∃ u, e = .returned (.tuple #[.agg u, .int .i64 (C : Nat), .int .i64 0]) ∧ FOwn w8 wr.heap.size u f := hans
      obtain ⟨sp, sc, bp, bc, ep, ec, hu, -⟩ := hfo.out
      unfold cells11 at hu
      subst hu
      obtain ⟨b0, hb0⟩ : ∃ x, x = f.kind := ⟨_, rfl⟩
      rw [← hb0] at HKs ⊢
      have HI2 : Hid (∀ o, FsI w3 (w8.alloc o) w1.heap.size g v l (i + 1) Z) := fun o => ⟨HZ.out, (hU8.below ((Below.refl _ _).alloc (Nat.le_refl _) o)).more (by omega), (HI.out.aside.trans ha8 (fun _ _ h => h)).alloc o⟩
      clear hfo hU8 ha8 hb0 HC HI HZ
      by_cases hij : i < j
      · have hCN := HZN.out.2 hij
        have g4 : decide ((C : Int) ≤ (N : Int)) = true := decide_eq_true (by omega)
        have g4' : (C : Int) ≤ (N : Int) := by omega
        have e3 : Rp.kept l (min (i + 1) j) = if b0 = 1 then Wn else C := by rw [Nat.min_eq_left (by omega), HKs.out, HWn.out, Nat.min_eq_left (by omega)]
        have HE3 := Lib.hid e3
        clear e3 hCN
        by_cases hk1 : b0 = 1
        · have g5 : (b0 != 1) = false := by rw [hk1]; rfl
          go_wp2
          go_roundw
          case rel => exact ⟨i + 1, Z, hlt, by rw [HE3.out, if_pos hk1], by rw [← HCz.out], HI2.out _⟩
          case measure => simp [intOf]; omega
        · have g5 : (b0 != 1) = true := by rw [bne_iff_ne]; exact hk1
          go_wp2
          go_roundw
          case rel => exact ⟨i + 1, Z, hlt, by rw [HE3.out, if_neg hk1], by rw [← HCz.out], HI2.out _⟩
          case measure => simp [intOf]; omega
      · have hCN : ¬ C ≤ N := fun h => hij (HZN.out.1 h)
        have g4 : decide ((C : Int) ≤ (N : Int)) = false := decide_eq_false (by omega)
        have g4' : ¬ (C : Int) ≤ (N : Int) := by omega
        have e3 : Rp.kept l (min (i + 1) j) = Wn := by rw [HWn.out, Nat.min_eq_right (by omega), Nat.min_eq_right (by omega)]
        have HE3 := Lib.hid e3
        clear e3 hCN
        go_wp2
        go_roundw
        case rel => exact ⟨i + 1, Z, hlt, by rw [HE3.out], by rw [← HCz.out], HI2.out _⟩
        case measure => simp [intOf]; omega
    · obtain rfl : i = J := by omega
      have hXY := HI.out.goes
      rw [HGo.out] at hXY
      injection hXY with hXY
      subst hXY
      have g3 : ¬ (A : Int) < (l.length : Int) := by have := HAt.out; have := HE.out; have := HEl.out; omega
      have hWk : Wn = Rp.kept l j := by rw [HWn.out, Nat.min_eq_right (by have := HJ.out.1; omega)]
      have hWN : Wn ≤ N := by rw [hWk]; have := HJ.out.2.2.1; omega
      obtain ⟨t, ht⟩ : ∃ t, t = l.take N := ⟨_, rfl⟩
      have htl : t.length = N := by rw [ht, List.length_take]; omega
      have hB4 : Below w1.heap.size w1 wr := HB3.out.trans hBr
      have hL := laid15 p c t (by omega) wr (by rw [ht]; exact ((HA1.out.on hB4)).take15 N)
      rw [htl] at hL
      have HL := Lib.hid hL
      have HFt := HF.out
      rw [← ht, ← hWk] at HFt
      have HF2 := Lib.hid HFt
      have HT : Hid (t.length = N ∧ t.take Wn = l.take Wn) := ⟨htl, by rw [ht, List.take_take, Nat.min_eq_left hWN]⟩
      have HB4 := Lib.hid hB4
      have hNc : (N : Int) ≤ (c : Int) := by omega
      clear hL HFt ht htl hB4 hBr HI HWn HAt HJ HF hWk
      go_wp2_with fail
      refine HL.out.mono ?_
      rintro e w5 ⟨g5, r5, v5, u5, x5, k5, rfl, h5⟩
      have hU5 := two_up h5
      have hB5 := HB4.out.trans (h5.below.mono HB4.out.size)
      have hD := hU5.doOk (by omega) (by have := HT.out.1; omega) (HV1.out.next hB5) (HE1.out.on hB5) (by have := HB4.out.size; omega) HF2.out.1 HF2.out.2.1 HF2.out.2.2 (by have := HT.out.1; omega)
      rw [HT.out.1, HT.out.2] at hD
      obtain ⟨n1, hn1⟩ : ∃ n1, n1 = N - Wn := ⟨_, rfl⟩
      rw [← hn1] at hD
      have HD := Lib.hid hD
      have HU5 := Lib.hid hU5
      have HB5 := Lib.hid hB5
      have HB45 := Lib.hid h5.below
      have hn1I : (n1 : Int) ≤ 100000 := by omega
      have gn : ((n1 : Int) == (N : Int) - (Wn : Int)) = true := by rw [beq_iff_eq]; omega
      clear h5 hU5 hB5 hD hn1 HL
      go_wp2_with fail
      refine HD.out.mono ?_
      rintro e w6 ⟨rfl, v6, hU6, ha6, hv6⟩
      have hB6 := HB5.out.trans ((HU5.out.belowA ha6 HB45.out.size).mono HB4.out.size)
      obtain ⟨T, hT⟩ : ∃ T, T = l.take Wn := ⟨_, rfl⟩
      have hTl : T.length = Wn := by rw [hT, List.length_take]; omega
      rw [← hT] at hU6
      obtain ⟨TX, hTX⟩ : ∃ TX, TX = textOf T := ⟨_, rfl⟩
      have HS : Hid (∀ w', Below w6.heap.size w6 w' → (convert 22 9 (.slice p Wn c)).run Tryz.prog w' = .ok (.string TX) w') := fun w' hb => by
        have h1 : At w' p T := by rw [hT]; exact (((HA1.out.on hB6).on hb).take15 Wn)
        have := conv_str h1 c
        rw [hTl, ← hTX] at this
        exact this
      have HAl : Hid (∀ w', Below w6.heap.size w6 w' → Calls Tryz.prog 17 #[.pointer (some ⟨g5, 0, none⟩)] w' fun e w'' => ∃ q cap, e = .returned (.slice q Wn cap) ∧ (convert 22 9 (.slice q Wn cap)).run Tryz.prog w'' = .ok (.string TX) w'' ∧ (convert 22 9 (.slice p Wn c)).run Tryz.prog w'' = .ok (.string TX) w'' ∧ Below w6.heap.size w6 w'') := fun w' hb => by
        refine ((hU6.below hb).all (by omega)).mono ?_
        rintro e w'' ⟨q, cap, q1, q2, q3⟩
        obtain ⟨q', cap', i1, i2, i3⟩ := q2.at
        injection i1 with i4 _ i6
        subst i4
        subst i6
        have h7 := conv_str i2 cap
        rw [hTl, ← hTX] at h7
        rw [hTl] at q1
        exact ⟨q, cap, q1, h7, HS.out _ (hb.trans (q3.mono hb.size)), hb.trans (q3.mono hb.size)⟩
      have HB6 := Lib.hid (HB1.out.trans (hB6.mono HB1.out.size))
      have hs0 := HS.out w6 (Below.refl _ _)
      have hWc : (Wn : Int) ≤ (c : Int) := by omega
      have hWw : IntKind.i64.wrap ((N : Int) - (Wn : Int)) = (N : Int) - (Wn : Int) := by rw [IntKind.wrap_i64]; omega
      clear hU6 ha6 hv6 hB6 hT hTl hTX HD HU5 HB5 HB45 HB4
      go_wp2_with fail
      go_region_held_law (fun w' => (convert 22 9 (.slice p Wn c)).run Tryz.prog w' = .ok (.string TX) w') (first | assumption | exact HS.out _ ((Below.refl _ _).drew)) (first
        | (go_at_call 17; refine (HAl.out _ ((Below.refl _ _).drew)).mono ?_; rintro e w7 ⟨q, cap, rfl, hc1, hc2, hb7⟩; have HB7 := Lib.hid hb7; clear hb7)
        | fail)
      all_goals
        go_wp2
        go_ret
        exact ⟨rfl, HB6.out.trans (HB7.out.mono HB6.out.size)⟩
end Go.Proofs.YtmgcfkpmknogaaaGreatDoor

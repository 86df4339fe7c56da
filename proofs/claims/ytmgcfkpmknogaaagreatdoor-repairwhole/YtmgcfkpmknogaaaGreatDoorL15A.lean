/- RepairWhole, walked. -/
import Derived.Test.YtmgcfkpmknogaaaGreatDoorW15D
import Derived.Deep.RegionHeldLaw
namespace Go.Proofs.YtmgcfkpmknogaaaGreatDoor
open Go.RowKit Go.Maps

def Live15 : Prop := ∀ w, Hv w → He w → Calls Tryz.prog 12 #[] w fun e w' => e = .returned (.bool true) ∧ Below w.heap.size w w'
theorem UpD.belowA {w w' : World} {B g n : Nat} {v : Value} {b : List UInt8} (h : UpD w B g v b n) (ha : Aside (fun i => i = g ∨ v.ownBlock = some i) w w') (hB : B ≤ w.heap.size) : Below B w w' := ha.below hB (fun i hi hc => by
  rcases hc with hc | hc
  · have := h.lt; omega
  · have := h.own i hc; omega)
theorem UpD.belowG {w w' : World} {B g n : Nat} {v : Value} {b : List UInt8} (h : UpD w B g v b n) (ha : Aside (fun i => i = g) w w') (hB : B ≤ w.heap.size) : Below B w w' := h.belowA (ha.mono fun _ _ hi => .inl hi) hB
theorem two_up {w w' : World} {l : List UInt8} {g r : Nat} {v u : Value} {x k : Nat} (h : Two15 w w' l g r v u x k) : UpD w' w.heap.size g v l 0 := ⟨_, x, k, h.dev, rfl, rfl, rfl, Nat.le_refl _, Nat.le_refl _, Nat.le_refl _⟩

/-- while the kinds are looked at: behind i frames -/
structure KdI (w7 wr : World) (B g : Nat) (v : Value) (T : List UInt8) (i : Nat) (Y : Sc.Pos) : Prop where
  goes : Sc.goes T i = some Y
  up : UpD wr B g v T (30000000000 + 2202 * i)
  aside : Aside (fun i => i = g) w7 wr
theorem UpD.more {w : World} {B g n m : Nat} {v : Value} {b : List UInt8} (h : UpD w B g v b n) (hm : n ≤ m) : UpD w B g v b m := by
  obtain ⟨s, x, k, h1, h2, h3, h4, h5, h6, h7⟩ := h.out
  exact ⟨s, x, k, h1, h2, h3, h4, h5, by omega, by omega⟩

set_option maxRecDepth 100000 in
set_option maxHeartbeats 8000000 in
theorem repairWhole_any (LIVE : Live15) (p : Option Addr) (c : Nat) (l : List UInt8) (hl : l.length ≤ 140737488351232) (hc : l.length ≤ c) (w : World) (hv : Hv w) (he : He w) (hA : At w p l) :
    Calls Tryz.prog 5 #[.slice p l.length c] w fun e w' => e = .returned (.bool true) ∧ Below w.heap.size w w' := by
  have HLv := Lib.hid (LIVE w hv he)
  have HHv := Lib.hid hv
  have HHe := Lib.hid he
  have HA := Lib.hid hA
  clear hv he hA LIVE
  go_enter Tryz.func5, Tryz.ntmps5
  go_wp2_with fail
  refine HLv.out.mono ?_
  rintro e w1 ⟨rfl, hb1⟩
  have HB1 := Lib.hid hb1
  clear hb1 HLv
  by_cases hbig : 100000 < l.length
  · have g0 : (100000 : Int) < (l.length : Int) := by omega
    clear hbig
    go_wp2
    go_ret
    exact ⟨rfl, HB1.out⟩
  have g0 : ¬ (100000 : Int) < (l.length : Int) := by omega
  have HA1 := Lib.hid (HA.out.on HB1.out)
  have HLd := Lib.hid (laid15 p c l (by omega) w1 HA1.out)
  have hll : l.length ≤ 100000 := by omega
  have hG1 := (HHv.out.next HB1.out).lt
  have HV1 := Lib.hid (HHv.out.next HB1.out)
  have HE1 := Lib.hid (HHe.out.on HB1.out)
  clear hbig
  go_wp2_with fail
  refine HLd.out.mono ?_
  rintro e w2 ⟨g, r, v, u, x, k, rfl, h2⟩
  have hU := two_up h2
  have HB2 := Lib.hid h2.below
  obtain ⟨j, X, er, hgo, hst⟩ := Rp.ends l
  have HGo := Lib.hid hgo
  cases hlk : Rp.look l j X.at_ er with
  | error cd =>
    obtain rfl := look_err hlk
    have HD := Lib.hid (hU.doErr (by omega) (by omega) (HV1.out.next HB2.out) (HE1.out.on HB2.out) hG1 hgo hst hlk)
    have HO := Lib.hid hU
    clear h2 hU hgo hst hlk HLd
    go_wp2_with fail
    refine HD.out.mono ?_
    rintro e w3 ⟨rfl, v3, hU3, ha3, hv3⟩
    have hB3 := HB2.out.trans (HO.out.belowA ha3 HB2.out.size)
    obtain ⟨TX, hTX⟩ : ∃ TX, TX = textOf l := ⟨_, rfl⟩
    have HAl : Hid (∀ w', Below w3.heap.size w3 w' → Calls Tryz.prog 17 #[.pointer (some ⟨g, 0, none⟩)] w' fun e w'' => ∃ q cap, e = .returned (.slice q l.length cap) ∧ (convert 22 9 (.slice q l.length cap)).run Tryz.prog w'' = .ok (.string TX) w'' ∧ (convert 22 9 (.slice p l.length c)).run Tryz.prog w'' = .ok (.string TX) w'' ∧ Below w3.heap.size w3 w'') := fun w' hb => by
      refine ((hU3.below hb).all (by omega)).mono ?_
      rintro e w'' ⟨q, cap, q1, q2, q3⟩
      obtain ⟨q', cap', h1, h2, h3⟩ := q2.at
      injection h1 with i1 _ i3
      subst i1
      subst i3
      rw [hTX]
      exact ⟨q, cap, q1, conv_str h2 cap, conv_str (((HA1.out.on hB3).on hb).on q3) c, hb.trans (q3.mono hb.size)⟩
    have HS : Hid (∀ w', Below w3.heap.size w3 w' → (convert 22 9 (.slice p l.length c)).run Tryz.prog w' = .ok (.string TX) w') := fun w' hb => by rw [hTX]; exact conv_str ((HA1.out.on hB3).on hb) c
    have HB3 := Lib.hid (HB1.out.trans (hB3.mono HB1.out.size))
    clear hU3 ha3 hv3 hB3 hTX HD HO
    have hs0 := HS.out w3 (Below.refl _ _)
    go_wp2_with fail
    go_region_held_law (fun w' => (convert 22 9 (.slice p l.length c)).run Tryz.prog w' = .ok (.string TX) w') (first | assumption | exact HS.out _ ((Below.refl _ _).drew)) (first
      | (go_at_call 17; refine (HAl.out _ ((Below.refl _ _).drew)).mono ?_; rintro e w4 ⟨q, cap, rfl, hc1, hc2, hb4⟩; have HB4 := Lib.hid hb4; clear hb4)
      | fail)
    go_wp2
    go_ret
    exact ⟨rfl, HB3.out.trans (HB4.out.mono HB3.out.size)⟩
  | ok K =>
    have hkk := look_kept hlk
    obtain ⟨m, xx, hg4, hst4, hlk4, hx4, hl4, hle4, hk4⟩ := look_done hgo
    rw [← hkk] at hg4 hst4 hlk4 hx4 hl4 hle4 hk4
    obtain ⟨T, hT⟩ : ∃ T, T = l.take K := ⟨_, rfl⟩
    rw [← hT] at hg4 hst4 hlk4 hl4 hk4
    have hTT : T.take K = T := List.take_of_length_le (by omega)
    have hD := hU.doOk (by omega) (by omega) (HV1.out.next HB2.out) (HE1.out.on HB2.out) hG1 hgo hst hlk hle4
    obtain ⟨n1, hn1⟩ : ∃ n1, n1 = l.length - K := ⟨_, rfl⟩
    rw [← hT, ← hn1] at hD
    have HD := Lib.hid hD
    have HO := Lib.hid hU
    have HF : Hid (Sc.goes T m = some xx ∧ Sc.step T xx = .error 140 ∧ Rp.look T m xx.at_ 140 = .ok K) := ⟨hg4, hst4, hlk4⟩
    have HX : Hid (xx.at_ = K ∧ T.length = K ∧ T.take K = T ∧ T = l.take K) := ⟨hx4, hl4, hTT, hT⟩
    have HKd := Lib.hid hk4
    have hKl : K ≤ 100000 := by omega
    have hKI : (K : Int) ≤ 100000 := by omega
    have hnI : (n1 : Int) ≤ 100000 := by omega
    have gn : ((K : Int) + (n1 : Int) != (l.length : Int)) = false := by rw [bne_eq_false_iff_eq]; omega
    have hKc : (K : Int) ≤ (c : Int) := by omega
    clear h2 hU hgo hst hlk hkk hg4 hst4 hlk4 hx4 hl4 hle4 hk4 hTT hD hT hn1 HLd
    go_wp2_with fail
    refine HD.out.mono ?_
    rintro e w3 ⟨rfl, v3, hU3, ha3, hv3⟩
    have hB3 := HB2.out.trans (HO.out.belowA ha3 HB2.out.size)
    have hAl := hU3.all (by have := HX.out.2.1; omega)
    rw [HX.out.2.1] at hAl
    have HAl := Lib.hid hAl
    have HU3 := Lib.hid hU3
    have HB3 := Lib.hid hB3
    clear hAl hU3 ha3 hv3 hB3 HD HO HB2
    go_wp2_with fail
    refine HAl.out.mono ?_
    rintro e w4 ⟨q, cap, rfl, hh4, hb4⟩
    have hU4 := HU3.out.below hb4
    have hB4 := HB3.out.trans (hb4.mono HB3.out.size)
    have hW := hU4.whole (G := fun i => i = g ∨ v3.ownBlock = some i) (by omega) (by have := HX.out.2.1; omega) (HV1.out.next hB4) hG1 (fun i hi => hi) (fun i hi => by
      rcases hi with hi | hi
      · rw [hi]; exact hU4.lt.2
      · exact (hU4.own i hi).2) HF.out.1 HF.out.2.1
    rw [HX.out.1] at hW
    have HW := Lib.hid hW
    have HH4 : Hid (At w4 q T ∧ ∀ b o, q = some ⟨b, o, none⟩ → T ≠ [] → ¬ (b = g ∨ v3.ownBlock = some b)) := by
      rcases hh4.form with ⟨h1, h2⟩ | ⟨gg, cp, h1, h2⟩
      · exact ⟨.inl h2, fun b o _ hne => absurd h2 hne⟩
      · injection h1 with i1 _ i3
        subst i1
        refine ⟨h2.at, fun b o hb _ hc => ?_⟩
        injection hb with hb
        injection hb with hb
        have := h2.base
        rcases hc with hc | hc
        · have := HU3.out.lt; omega
        · have := HU3.out.own b hc; omega
    have HB4 := Lib.hid hB4
    have HU4 := Lib.hid hU4
    clear hW hU4 hB4 hh4 hb4 HAl HU3 HB3
    go_wp2_with fail
    refine HW.out.mono ?_
    rintro e w5 ⟨rfl, ⟨vw, gw, hk5⟩, hU5, ha5⟩
    have hB5 := HB4.out.trans (HU4.out.belowG ha5 HB4.out.size)
    have hD := hU5.doOk (by omega) (by have := HX.out.2.1; omega) (HV1.out.next hB5) (HE1.out.on hB5) hG1 HF.out.1 HF.out.2.1 HF.out.2.2 (by have := HX.out.2.1; omega)
    rw [HX.out.2.1, HX.out.2.2.1, Nat.sub_self] at hD
    have HD := Lib.hid hD
    have HK5 := Lib.hid hk5
    have HU5 := Lib.hid hU5
    have HB5 := Lib.hid hB5
    have HA5 := Lib.hid ha5
    have hs4 := ha5.size
    clear hD hk5 hU5 hB5 ha5 HW HU4
    go_wp2_with fail
    refine HD.out.mono ?_
    rintro e w6 ⟨rfl, v6, hU6, ha6, hv6⟩
    have hB6 := HB5.out.trans (HU5.out.belowA ha6 HB5.out.size)
    have hk6 : KWalk w6 w4.heap.size (w4.heap.size + 1) w4.heap.size (m + 1) vw gw xx.wk (fun i => i = g ∨ v6.ownBlock = some i) := HK5.out.aside ha6 (fun i hi => by
      rcases hi with hi | hi
      · exact .inl (.inl hi)
      · rcases hv6 i hi with h | h
        · exact .inl (.inr h)
        · exact .inr h) (fun i hi => by
      rcases hi with hi | hi
      · rw [hi]; exact hU6.lt.2
      · exact (hU6.own i hi).2)
    have hLo := hU6.look (by omega) (by have := HX.out.2.1; omega) (HV1.out.next hB6) (HE1.out.on hB6) hG1 HF.out.1 HF.out.2.1
    rw [HF.out.2.2] at hLo
    have HLo := Lib.hid hLo
    have HAq : Hid (At w6 q T) := by
      by_cases hne : T = []
      · exact .inl hne
      · exact (HH4.out.1.aside (HA5.out.mono fun _ _ hi => .inl hi) (fun b o hb => HH4.out.2 b o hb hne)).aside ha6 (fun b o hb => HH4.out.2 b o hb hne)
    have HK6 := Lib.hid hk6
    have HU6 := Lib.hid hU6
    have HB6 := Lib.hid hB6
    have HQg : Hid (∀ b o, q = some ⟨b, o, none⟩ → T ≠ [] → b ≠ g) := fun b o hb hne hc => HH4.out.2 b o hb hne (.inl hc)
    clear hLo hk6 hU6 hB6 ha6 hv6 HD HK5 HU5 HB5 HA5 HH4 HB4
    go_wp2_with fail
    refine HLo.out.mono ?_
    rintro e w7 ⟨hans, hU7, ha7⟩
    obtain ⟨a, M, B', nn, v', g', mm, yy, rfl, hk7, hB', hgm, hym⟩ := hans
    obtain ⟨-, rfl⟩ := goes_at HF.out.1 hgm (HX.out.1.trans hym.symm)
    have hB7 := HB6.out.trans (HU6.out.belowG ha7 HB6.out.size)
    have hw7 : KWalk w7 w4.heap.size (w4.heap.size + 1) w4.heap.size (m + 1) vw gw xx.wk (fun i => i = g ∨ v6.ownBlock = some i) := HK6.out.aside (ha7.mono fun _ _ hi => .inl hi) (fun i hi => .inl hi) (fun i hi => by
      rcases hi with hi | hi
      · rw [hi]; exact hU7.lt.2
      · exact (hU7.own i hi).2)
    have hAq : At w7 q T := by
      by_cases hne : T = []
      · exact .inl hne
      · exact HAq.out.aside ha7 (fun b o hb => HQg.out b o hb hne)
    have hAp : At w7 p T := by
      rw [HX.out.2.2.2]
      exact ((HA1.out.on hB7).take15 K)
    obtain ⟨TX, hTX⟩ : ∃ TX, TX = textOf T := ⟨_, rfl⟩
    have k1 : ∀ jj, (convert 22 9 (.slice q K cap)).run Tryz.prog (w7.drewN jj) = .ok (.string TX) (w7.drewN jj) := fun jj => by
      have := conv_str (hAq.drewN jj) cap
      rw [HX.out.2.1, ← hTX] at this
      exact this
    have k2 : ∀ jj, (convert 22 9 (.slice p K c)).run Tryz.prog (w7.drewN jj) = .ok (.string TX) (w7.drewN jj) := fun jj => by
      have := conv_str (hAp.drewN jj) c
      rw [HX.out.2.1, ← hTX] at this
      exact this
    have HK7 := Lib.hid hk7
    have HW7 := Lib.hid hw7
    have HB7 := Lib.hid (HB1.out.trans (hB7.mono HB1.out.size))
    have HV7 := Lib.hid (HV1.out.next hB7)
    have HU7 := Lib.hid (hU7.more (m := 30000000000) (by omega))
    clear hk7 hw7 hB' hgm hym hB7 hAq hAp hTX hU7 ha7 HLo HK6 HU6 HB6 HAq HQg
    go_wp2
    go_quiet (fail)
    obtain ⟨wq, hwq⟩ : ∃ wq, wq = w7.drewN nq := ⟨_, rfl⟩
    have hbq : Below w7.heap.size w7 wq := by rw [hwq]; exact below_drewN (Below.refl _ _) nq
    have HIq : Hid (KdI wq wq w1.heap.size g v6 T 0 Sc.begin_) := ⟨rfl, HU7.out.below hbq, Aside.refl _ _⟩
    have HKq := Lib.hid (HK7.out.on hbq)
    have HWq := Lib.hid (HW7.out.on hbq)
    have HBq := Lib.hid (HB7.out.trans (hbq.mono HB7.out.size))
    have HVq := Lib.hid (HV7.out.next hbq)
    have hsq : w1.heap.size ≤ wq.heap.size := by have := HIq.out.up.lt; omega
    have HWq2 := Lib.hid hwq.symm
    clear hbq hwq k1 k2 HK7 HW7 HB7 HV7 HU7
    go_wp2
    rw [HWq2.out]
    clear HWq2
    go_loopw [17, 18] (fun v17 v18 wr => ∃ i Y, i ≤ m ∧ v17 = .int .i64 (Rp.kind T i) ∧ v18 = .int .i64 (Sc.Pos.at_ Y : Nat) ∧ Hid (KdI wq wr w1.heap.size g v6 T i Y)) (fun _ v18 _ => T.length - (intOf v18).toNat)
    case atStart => exact ⟨0, Sc.begin_, Nat.zero_le _, rfl, rfl, HIq⟩
    case round =>
      obtain ⟨i, Y, him, rfl, rfl, HI⟩ := hrel
      obtain ⟨hgd, hat, h8, hrd⟩ := Sc.goes_good HI.out.goes
      obtain ⟨A, hA⟩ : ∃ A, A = Y.at_ := ⟨_, rfl⟩
      obtain ⟨kd, hkd⟩ : ∃ kd, kd = Rp.kind T i := ⟨_, rfl⟩
      rw [← hA] at hat h8
      rw [← hA, ← hkd]
      have HAt := Lib.hid hA
      have HKi := Lib.hid hkd
      have hTl := HX.out.2.1
      have hAI : (A : Int) ≤ 100000 := by omega
      have hBr : Below w1.heap.size wq wr := HI.out.aside.below hsq (fun k hk hc => by have := HI.out.up.lt; omega)
      clear hA hkd hgd hrd
      by_cases hlt : i < m
      · obtain ⟨Z, hZ⟩ := Rp.goes_pre (j := i + 1) HF.out.1 (by omega)
        have hle := Rp.goes_le HI.out.goes HF.out.1 (Nat.le_of_lt hlt)
        rw [← HAt.out, HX.out.1] at hle
        have g1 : (A : Int) < (K : Int) := by omega
        obtain ⟨f, hat2, hlt2⟩ := Rp.goes_lt HI.out.goes hZ
        have hks := Rp.kind_succ HI.out.goes hat2
        have hZl := (Sc.goes_good hZ).2.1
        have hC := HI.out.up.at (by omega) (by omega) (HVq.out.on hBr hG1) hG1 (Y.at_ : Nat)
        rw [hat2, ← HAt.out] at hC
        obtain ⟨C, hCz⟩ : ∃ C, C = Z.at_ := ⟨_, rfl⟩
        rw [← hCz] at hC hZl hlt2
        rw [← HAt.out] at hlt2
        have HC := Lib.hid hC
        have HZ := Lib.hid hZ
        have HCz := Lib.hid hCz
        have HKs := Lib.hid hks
        have hCI : (C : Int) ≤ 100000 := by omega
        clear hC hZ hCz hks hat2 hle hBr
        go_wp2_with fail
        refine HC.out.mono ?_
        rintro e w8 ⟨hans, hU8, ha8⟩
        obtain ⟨u8, rfl, hfo⟩ : ∃ u, e = .returned (.tuple #[.agg u, .int .i64 (C : Nat), .int .i64 0]) ∧ FOwn w8 wr.heap.size u f := hans
        obtain ⟨sp, sc, bp, bc, ep, ec, hu, -⟩ := hfo.out
        unfold cells11 at hu
        subst hu
        obtain ⟨b0, hb0⟩ : ∃ x, x = f.kind := ⟨_, rfl⟩
        rw [← hb0] at HKs ⊢
        have HI2 : Hid (∀ o, KdI wq (w8.alloc o) w1.heap.size g v6 T (i + 1) Z) := fun o => ⟨HZ.out, (hU8.below ((Below.refl _ _).alloc (Nat.le_refl _) o)).more (by omega), (HI.out.aside.trans ha8 (fun _ _ h => h)).alloc o⟩
        clear hfo hU8 ha8 hb0 HC HI HZ
        go_wp2
        go_roundw
        case rel => exact ⟨i + 1, Z, hlt, by rw [HKs.out], by rw [← HCz.out], HI2.out _⟩
        case measure => simp [intOf]; omega
      · obtain rfl : i = m := by omega
        have hXY := HI.out.goes
        rw [HF.out.1] at hXY
        injection hXY with hXY
        subst hXY
        have g1 : ¬ (A : Int) < (K : Int) := by have := HAt.out; have := HX.out.1; omega
        have hne : kd ≠ 1 := by rw [HKi.out]; exact HKd.out
        have g2 : (kd != 1) = true := by rw [bne_iff_ne]; exact hne
        obtain ⟨fr, hfr⟩ : ∃ fr, fr = xx.wk.frames := ⟨_, rfl⟩
        have hGo : Aside (fun i => i = g ∨ v6.ownBlock = some i) wq wr := HI.out.aside.mono fun _ _ hi => .inl hi
        have hGl : ∀ i, (i = g ∨ v6.ownBlock = some i) → i < wr.heap.size := fun i hi => by
          rcases hi with hi | hi
          · rw [hi]; exact HI.out.up.lt.2
          · exact (HI.out.up.own i hi).2
        have hF1 := kFrames (HWq.out.aside hGo (fun i hi => .inl hi) hGl)
        have hF2 := kFrames (HKq.out.aside hGo (fun i hi => .inl hi) hGl)
        rw [← hfr] at hF1 hF2
        have HF1 := Lib.hid hF1
        have HF2 := Lib.hid hF2
        have HBr := Lib.hid (HBq.out.trans (hBr.mono HB1.out.size))
        clear hF1 hF2 hfr hGo hGl hBr hne HI HKi HAt
        go_wp2_with fail
        refine HF1.out.mono ?_
        rintro e w' ⟨rfl, hw'⟩
        rw [hw']
        clear hw' w' HF1
        go_wp2_with fail
        refine HF2.out.mono ?_
        rintro e w' ⟨rfl, hw'⟩
        rw [hw']
        clear hw' w' HF2
        go_wp2
        go_ret
        exact ⟨rfl, HBr.out⟩
end Go.Proofs.YtmgcfkpmknogaaaGreatDoor

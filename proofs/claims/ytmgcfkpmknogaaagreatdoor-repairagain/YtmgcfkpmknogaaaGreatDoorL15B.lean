/- RepairAgain, walked. -/
import Derived.Test.YtmgcfkpmknogaaaGreatDoorL15A
namespace Go.Proofs.YtmgcfkpmknogaaaGreatDoor
open Go.RowKit Go.Maps

/-- All, and what string(..) of it says from then on -/
theorem all_says {w : World} {B g x k : Nat} {v : Value} {s : Dv.St} (h : KDev w B g v s x k) {T : List UInt8} (hT : s.b = T) (hl : T.length ≤ 2097152) {TX : ByteArray} (hX : TX = textOf T) : ∀ w', Below w.heap.size w w' → Calls Tryz.prog 17 #[.pointer (some ⟨g, 0, none⟩)] w' fun e w'' => ∃ q cap, e = .returned (.slice q T.length cap) ∧ (convert 22 9 (.slice q T.length cap)).run Tryz.prog w'' = .ok (.string TX) w'' ∧ (∀ y, Below w''.heap.size w'' y → (convert 22 9 (.slice q T.length cap)).run Tryz.prog y = .ok (.string TX) y) ∧ Below w.heap.size w w'' ∧ Below w'.heap.size w' w'' := fun w' hb => by
  subst hT
  refine (kAll (h.below hb) hl).mono ?_
  rintro e w'' ⟨q, cap, q1, q2, q3⟩
  obtain ⟨q', cap', h1, h2, h3⟩ := q2.at
  injection h1 with i1 _ i3
  subst i1
  subst i3
  rw [hX]
  exact ⟨q, cap, q1, conv_str h2 cap, fun y hy => conv_str (h2.on hy) cap, hb.trans (q3.mono hb.size), q3⟩
theorem power_cut {s : Dv.St} {K : Nat} (hd : s.down = false) (hb : s.bound = true) (ha : s.after = 0) (hK : K ≤ s.b.length) (hne : s.b.length ≠ K) (hs : s.safe = s.b.length) : Rp.do_ s (.ok K) = (0, 51, Dv.fails s) ∧ (Dv.fails s).b = s.b := by
  have hm : Dv.may s = false := by unfold Dv.may; rw [hb, ha]; rfl
  have e : Dv.cut s (K : Nat) = (51, Dv.fails s) := by
    unfold Dv.cut
    rw [if_neg (by rw [hd]; simp), if_neg (by omega), if_neg (by rw [hm]; simp)]
  refine ⟨by rw [do_cut hne, e]; rfl, ?_⟩
  unfold Dv.fails
  show (if s.keep < s.b.length - s.safe then _ else _) = _
  rw [if_neg (by omega)]

set_option maxRecDepth 100000 in
set_option maxHeartbeats 8000000 in
theorem repairAgain_any (LIVE : Live15) (p : Option Addr) (c : Nat) (l : List UInt8) (hl : l.length ≤ 140737488351232) (a : Int) (ha : a ≤ 9223372036854775807) (w : World) (hv : Hv w) (he : He w) (hA : At w p l) :
    Calls Tryz.prog 7 #[.slice p l.length c, .int .i64 a] w fun e w' => e = .returned (.bool true) ∧ Below w.heap.size w w' := by
  have HLv := Lib.hid (LIVE w hv he)
  have HHv := Lib.hid hv
  have HHe := Lib.hid he
  have HA := Lib.hid hA
  clear hv he hA LIVE
  go_enter Tryz.func7, Tryz.ntmps7
  go_wp2_with fail
  refine HLv.out.mono ?_
  rintro e w1 ⟨rfl, hb1⟩
  have HB1 := Lib.hid hb1
  clear hb1 HLv
  by_cases hbig : 100000 < l.length
  · have g0 : (100000 : Int) < (l.length : Int) := by omega
    clear hbig
    go_wp2
    go_ret
    exact ⟨rfl, HB1.out⟩
  have g0 : ¬ (100000 : Int) < (l.length : Int) := by omega
  have HA1 := Lib.hid (HA.out.on HB1.out)
  have HLd := Lib.hid (laid15 p c l (by omega) w1 HA1.out)
  have hll : l.length ≤ 100000 := by omega
  have hG1 := (HHv.out.next HB1.out).lt
  have HV1 := Lib.hid (HHv.out.next HB1.out)
  have HE1 := Lib.hid (HHe.out.on HB1.out)
  clear hbig
  go_wp2_with fail
  refine HLd.out.mono ?_
  rintro e w2 ⟨g, r, v, u, x, k, rfl, h2⟩
  have HB2 := Lib.hid h2.below
  have HT2 := Lib.hid h2
  have HLd2 := Lib.hid (laid15 p c l (by omega) w2 (HA1.out.on HB2.out))
  clear h2 HLd
  go_wp2_with fail
  refine HLd2.out.mono ?_
  rintro e w3 ⟨g2, r2, v2, u2, x2, k2, rfl, h3⟩
  have hU := (two_up HT2.out).below h3.below
  have hB3 := HB2.out.trans (h3.below.mono HB2.out.size)
  have HK3 := Lib.hid h3.dev
  have hlow := (two_up HT2.out).lt
  have HOw := Lib.hid (two_up HT2.out).own
  have hg2 := h3.dev.base
  have hg2l := h3.dev.lt
  have HOw2 := Lib.hid h3.dev.has.lt
  have hs12 := HB2.out.size
  have hs3 := h3.below.size
  obtain ⟨j, X, er, hgo, hst⟩ := Rp.ends l
  have HGo := Lib.hid hgo
  have HSt := Lib.hid hst
  have HB3 := Lib.hid hB3
  have HU := Lib.hid hU
  have HV3 := Lib.hid (HV1.out.next hB3)
  have HE3 := Lib.hid (HE1.out.on hB3)
  /- the clone's file behind the repair of the first one, and Fail -/
  have HFl : Hid (∀ w4 kp kn, kn = Int.toNat kp → 0 ≤ kp → kp ≤ 9223372036854775807 → Aside (fun i => i = g ∨ v.ownBlock = some i) w3 w4 → Calls Tryz.prog 18 #[.pointer (some ⟨g2, 0, none⟩), .int .i64 0, .int .i64 kp] w4 fun e w5 => e = .returned (.int .i64 0) ∧ ∃ v5 x5 k5, KDev w5 w2.heap.size g2 v5 { Dv.new 1048576 with b := l, safe := l.length, bound := true, after := 0, keep := kn } x5 k5 ∧ Aside (fun i => i = g2 ∨ v2.ownBlock = some i) w4 w5 ∧ ∀ i, v5.ownBlock = some i → v2.ownBlock = some i ∨ w4.heap.size ≤ i) := fun w4 kp kn hkn h0 h1 ha4 => by
    have hk4 := HK3.out.aside ha4 (fun hc => by
      rcases hc with hc | hc
      · omega
      · have := HOw.out _ hc; omega) (fun i hi hc => by
      have := HOw2.out i hi
      rcases hc with hc | hc
      · omega
      · have := HOw.out _ hc; omega)
    refine (kFail hk4 0 kp (by omega) h1).mono ?_
    have e1 : Dv.fail { Dv.new 1048576 with b := l, safe := l.length } 0 kp = (0, { Dv.new 1048576 with b := l, safe := l.length, bound := true, after := 0, keep := kn }) := by
      unfold Dv.fail
      rw [if_neg (by simp [Dv.new]), if_neg (by omega), hkn]
      rfl
    rw [e1]
    rintro e w5 ⟨q1, v5, x5, k5, q2, q3, q4⟩
    exact ⟨q1, v5, x5, k5, q2, q3, q4⟩
  clear h3 hU hB3 hgo hst HLd2 HT2 HK3
  cases hlk : Rp.look l j X.at_ er with
  | error cd =>
    obtain rfl := look_err hlk
    have HD := Lib.hid (HU.out.doErr (by omega) (by omega) HV3.out HE3.out hG1 HGo.out HSt.out hlk)
    have HLk := Lib.hid hlk
    clear hlk
    by_cases ha0 : a < 0
    case' pos =>
      have ga : decide (a < 0) = true := decide_eq_true ha0
      obtain ⟨kn, hkn⟩ : ∃ kn, kn = Int.toNat 0 := ⟨_, rfl⟩
      have HFk := Lib.hid (fun w4 => HFl.out w4 0 kn hkn (by omega) (by omega))
      clear hkn
      go_wp2_with fail
    case' neg =>
      have ga : decide (a < 0) = false := decide_eq_false ha0
      obtain ⟨kn, hkn⟩ : ∃ kn, kn = Int.toNat a := ⟨_, rfl⟩
      have HFk := Lib.hid (fun w4 => HFl.out w4 a kn hkn (by omega) ha)
      clear hkn
      go_wp2_with fail
    all_goals
      refine HD.out.mono ?_
      rintro e w4 ⟨rfl, v4, hU4, ha4, hv4⟩
      have HU4 := Lib.hid hU4
      have HA4 := Lib.hid ha4
      have HV4 : Hid (∀ i, v4.ownBlock = some i → i < w4.heap.size ∧ (i < w2.heap.size ∨ w3.heap.size ≤ i)) := fun i hi => ⟨(hU4.own i hi).2, (hv4 i hi).imp (fun h => (HOw.out i h).2) id⟩
      have hs4 := ha4.size
      clear hU4 ha4 hv4 HD
      go_wp2_with fail
      refine (HFk.out w4 HA4.out).mono ?_
      rintro e w5 ⟨rfl, v5, x5, k5, hk5, ha5, hv5⟩
      have hB5 : Below w1.heap.size w1 w5 := HB3.out.trans ((HU.out.belowA HA4.out HB3.out.size).trans (ha5.below (by omega) (fun i hi hc => by
        rcases hc with hc | hc
        · omega
        · have := HOw2.out i hc; omega)))
      have hD2 := kDo hk5 rfl (by show l.length ≤ _; omega) (Nat.le_refl _) (by show 0 < _; omega) (by show 0 ≤ _; omega) (HV1.out.next hB5) (HE1.out.on hB5) (by omega) (j := j) (er := er) (X := X) HGo.out HSt.out
      have hU5 := HU4.out.aside ha5 (fun hc => by
        rcases hc with hc | hc
        · omega
        · have := HOw2.out g hc; omega) (fun i hi hc => by
        have h6 := HV4.out i hi
        rcases hc with hc | hc
        · omega
        · have := HOw2.out i hc; omega)
      have HO5 : Hid (∀ i, v5.ownBlock = some i → w2.heap.size ≤ i ∧ i < w5.heap.size) := hk5.has.lt
      have HN5 : Hid (∀ i, v5.ownBlock = some i → w2.heap.size ≤ i ∧ (i < w3.heap.size ∨ w4.heap.size ≤ i)) := fun i hi => ⟨(hk5.has.lt i hi).1, (hv5 i hi).imp (fun h => (HOw2.out i h).2) id⟩
      have hs5 := ha5.size
      have hlk2 : Rp.look l j X.at_ er = .error 150 := HLk.out
      have hlk3 : Rp.look (Dv.St.b { Dv.new 1048576 with b := l, safe := l.length, bound := true, after := 0 }) j X.at_ er = .error 150 := hlk2
      have hD3 : Calls Tryz.prog 20 #[.pointer (some ⟨g2, 0, none⟩)] w5 fun e w6 => e = .returned (.tuple #[.int .i64 0, .int .i64 150]) ∧ ∃ s6 v6 x6 k6, s6.b = l ∧ KDev w6 w2.heap.size g2 v6 s6 x6 k6 ∧ Aside (fun i => i = g2 ∨ v5.ownBlock = some i) w5 w6 := by
        refine hD2.mono ?_
        rintro e w6 ⟨q1, t, v6, x6, k6, q2, q3, q4, q5⟩
        have hlk4 := hlk2
        simp only [hlk2] at q1 q3
        exact ⟨q1, _, v6, x6, k6, rfl, q3, q4⟩
      have HD3 := Lib.hid hD3
      have HU5 := Lib.hid hU5
      have HB5 := Lib.hid hB5
      clear hk5 ha5 hv5 hB5 hD2 hU5 hlk2 hlk3 hD3 HFl
      go_wp2_with fail
      refine HD3.out.mono ?_
      rintro e w6 ⟨rfl, s6, v6, x6, k6, hs6, hk6, ha6⟩
      have hU6 := HU5.out.aside ha6 (fun hc => by
        rcases hc with hc | hc
        · omega
        · have := HO5.out g hc; omega) (fun i hi hc => by
        have h6 := HV4.out i hi
        rcases hc with hc | hc
        · omega
        · have := HN5.out i hc; omega)
      obtain ⟨sd, xd, kd, hkd, hsd, -⟩ := hU6.out
      obtain ⟨TX, hTX⟩ : ∃ TX, TX = textOf l := ⟨_, rfl⟩
      have HAd := Lib.hid (all_says hkd hsd (by omega) hTX)
      have HAc := Lib.hid (all_says hk6 hs6 (by omega) hTX)
      have HBz := Lib.hid (HB1.out.trans ((HB5.out.trans (ha6.below (by have := HB5.out.size; omega) (fun i hi hc => by
        rcases hc with hc | hc
        · omega
        · have := HO5.out i hc; omega))).mono HB1.out.size))
      clear hU6 hkd hsd hTX hk6 hs6 ha6 HD3 HU5 HB5
      go_wp2_with fail
      go_region_held_law (fun _ => True) (trivial) (first
        | (go_at_call_of 17 g; refine (HAd.out _ (by first | exact (Below.refl _ _).drew | assumption)).mono ?_; rintro e wd ⟨qd, cd, rfl, hd1, hd2, hd3, hd4⟩)
        | (go_at_call_of 17 g2; refine (HAc.out _ (by first | exact (Below.refl _ _).drew | assumption)).mono ?_; rintro e wc ⟨qc, cc, rfl, hc1, hc2, hc3, hc4⟩)
        | fail)
      all_goals
        go_wp2
        go_ret
        first
          | exact ⟨rfl, HBz.out.trans (hd3.mono HBz.out.size)⟩
          | exact ⟨rfl, HBz.out.trans (hc3.mono HBz.out.size)⟩
  | ok K =>
    have hkk := look_kept hlk
    have hKl : K ≤ l.length := by rw [hkk]; have := Rp.kept_le HGo.out; have := (Sc.goes_good HGo.out).2.1; omega
    clear hkk
    by_cases hLK : l.length = K
    · have hD := HU.out.doOk (by omega) (by omega) HV3.out HE3.out hG1 HGo.out HSt.out hlk hKl
      obtain ⟨n1, hn1⟩ : ∃ n1, n1 = l.length - K := ⟨_, rfl⟩
      obtain ⟨T, hT⟩ : ∃ T, T = l.take K := ⟨_, rfl⟩
      rw [← hn1, ← hT] at hD
      have HD := Lib.hid hD
      clear hD
      have hTl : T = l := by rw [hT, List.take_of_length_le (by omega)]
      have hn0 : n1 = 0 := by omega
      rw [hTl, hn0] at HD
      have HLK := Lib.hid hLK
      clear hTl hn0 hT hn1 hLK
      have HLk := Lib.hid hlk
      clear hlk
      by_cases ha0 : a < 0
      case' pos =>
        have ga : decide (a < 0) = true := decide_eq_true ha0
        obtain ⟨kn, hkn⟩ : ∃ kn, kn = Int.toNat 0 := ⟨_, rfl⟩
        have HFk := Lib.hid (fun w4 => HFl.out w4 0 kn hkn (by omega) (by omega))
        clear hkn
        go_wp2_with fail
      case' neg =>
        have ga : decide (a < 0) = false := decide_eq_false ha0
        obtain ⟨kn, hkn⟩ : ∃ kn, kn = Int.toNat a := ⟨_, rfl⟩
        have HFk := Lib.hid (fun w4 => HFl.out w4 a kn hkn (by omega) ha)
        clear hkn
        go_wp2_with fail
      all_goals
        refine HD.out.mono ?_
        rintro e w4 ⟨rfl, v4, hU4, ha4, hv4⟩
        have HU4 := Lib.hid hU4
        have HA4 := Lib.hid ha4
        have HV4 : Hid (∀ i, v4.ownBlock = some i → i < w4.heap.size ∧ (i < w2.heap.size ∨ w3.heap.size ≤ i)) := fun i hi => ⟨(hU4.own i hi).2, (hv4 i hi).imp (fun h => (HOw.out i h).2) id⟩
        have hs4 := ha4.size
        clear hU4 ha4 hv4 HD
        go_wp2_with fail
        refine (HFk.out w4 HA4.out).mono ?_
        rintro e w5 ⟨rfl, v5, x5, k5, hk5, ha5, hv5⟩
        have hB5 : Below w1.heap.size w1 w5 := HB3.out.trans ((HU.out.belowA HA4.out HB3.out.size).trans (ha5.below (by omega) (fun i hi hc => by
          rcases hc with hc | hc
          · omega
          · have := HOw2.out i hc; omega)))
        have hD2 := kDo hk5 rfl (by show l.length ≤ _; omega) (Nat.le_refl _) (by show 0 < _; omega) (by show 0 ≤ _; omega) (HV1.out.next hB5) (HE1.out.on hB5) (by omega) (j := j) (er := er) (X := X) HGo.out HSt.out
        have hU5 := HU4.out.aside ha5 (fun hc => by
          rcases hc with hc | hc
          · omega
          · have := HOw2.out g hc; omega) (fun i hi hc => by
          have h6 := HV4.out i hi
          rcases hc with hc | hc
          · omega
          · have := HOw2.out i hc; omega)
        have HO5 : Hid (∀ i, v5.ownBlock = some i → w2.heap.size ≤ i ∧ i < w5.heap.size) := hk5.has.lt
        have HN5 : Hid (∀ i, v5.ownBlock = some i → w2.heap.size ≤ i ∧ (i < w3.heap.size ∨ w4.heap.size ≤ i)) := fun i hi => ⟨(hk5.has.lt i hi).1, (hv5 i hi).imp (fun h => (HOw2.out i h).2) id⟩
        have hs5 := ha5.size
        have hlk2 : Rp.look l j X.at_ er = .ok K := HLk.out
        have hD3 : Calls Tryz.prog 20 #[.pointer (some ⟨g2, 0, none⟩)] w5 fun e w6 => e = .returned (.tuple #[.int .i64 0, .int .i64 0]) ∧ ∃ s6 v6 x6 k6, s6.b = l ∧ KDev w6 w2.heap.size g2 v6 s6 x6 k6 ∧ Aside (fun i => i = g2 ∨ v5.ownBlock = some i) w5 w6 := by
          refine hD2.mono ?_
          rintro e w6 ⟨q1, t, v6, x6, k6, q2, q3, q4, q5⟩
          simp only [hlk2] at q1 q3
          rw [do_whole HLK.out] at q1 q3
          exact ⟨q1, _, v6, x6, k6, rfl, q3, q4⟩
        have HD3 := Lib.hid hD3
        have HU5 := Lib.hid hU5
        have HB5 := Lib.hid hB5
        clear hk5 ha5 hv5 hB5 hD2 hU5 hlk2 hD3 HFl HFk
        go_wp2_with fail
        refine HD3.out.mono ?_
        rintro e w6 ⟨rfl, s6, v6, x6, k6, hs6, hk6, ha6⟩
        have hU6 := HU5.out.aside ha6 (fun hc => by
          rcases hc with hc | hc
          · omega
          · have := HO5.out g hc; omega) (fun i hi hc => by
          have h6 := HV4.out i hi
          rcases hc with hc | hc
          · omega
          · have := HN5.out i hc; omega)
        obtain ⟨sd, xd, kd, hkd, hsd, -⟩ := hU6.out
        obtain ⟨TX, hTX⟩ : ∃ TX, TX = textOf l := ⟨_, rfl⟩
        have HAd := Lib.hid (all_says hkd hsd (by omega) hTX)
        have HAc := Lib.hid (all_says hk6 hs6 (by omega) hTX)
        have HBz := Lib.hid (HB1.out.trans (((HB5.out.trans (ha6.below (by have := HB5.out.size; omega) (fun i hi hc => by
          rcases hc with hc | hc
          · omega
          · have := HO5.out i hc; omega)))).mono HB1.out.size))
        clear hU6 hkd hsd hTX hk6 hs6 ha6 HD3 HU5 HB5
        go_wp2_with fail
        go_region_held_law (fun _ => True) (trivial) (first
          | (go_at_call_of 17 g; refine (HAd.out _ (by first | exact (Below.refl _ _).drew | assumption)).mono ?_; rintro e wd ⟨qd, cd, rfl, hd1, hd2, hd3, hd4⟩)
          | (go_at_call_of 17 g2; refine (HAc.out _ (by first | exact (Below.refl _ _).drew | assumption)).mono ?_; rintro e wc ⟨qc, cc, rfl, hc1, hc2, hc3, hc4⟩)
          | fail)
        all_goals
          go_wp2
          go_ret
          first
            | exact ⟨rfl, HBz.out.trans (hd3.mono HBz.out.size)⟩
            | exact ⟨rfl, HBz.out.trans (hc3.mono HBz.out.size)⟩
    · have hD := HU.out.doOk (by omega) (by omega) HV3.out HE3.out hG1 HGo.out HSt.out hlk hKl
      obtain ⟨n1, hn1⟩ : ∃ n1, n1 = l.length - K := ⟨_, rfl⟩
      obtain ⟨T, hT⟩ : ∃ T, T = l.take K := ⟨_, rfl⟩
      rw [← hn1, ← hT] at hD
      have HD := Lib.hid hD
      clear hD
      have hTl : T.length = K := by rw [hT, List.length_take]; omega
      have HTl := Lib.hid hTl
      have HT := Lib.hid hT
      have hn1I : (n1 : Int) ≤ 100000 := by omega
      have HN1 := Lib.hid hn1
      clear hT hn1 hTl
      have HLk := Lib.hid hlk
      clear hlk
      by_cases ha0 : a < 0
      case' pos =>
        have ga : decide (a < 0) = true := decide_eq_true ha0
        obtain ⟨kn, hkn⟩ : ∃ kn, kn = Int.toNat 0 := ⟨_, rfl⟩
        have HFk := Lib.hid (fun w4 => HFl.out w4 0 kn hkn (by omega) (by omega))
        clear hkn
        go_wp2_with fail
      case' neg =>
        have ga : decide (a < 0) = false := decide_eq_false ha0
        obtain ⟨kn, hkn⟩ : ∃ kn, kn = Int.toNat a := ⟨_, rfl⟩
        have HFk := Lib.hid (fun w4 => HFl.out w4 a kn hkn (by omega) ha)
        clear hkn
        go_wp2_with fail
      all_goals
        refine HD.out.mono ?_
        rintro e w4 ⟨rfl, v4, hU4, ha4, hv4⟩
        have HU4 := Lib.hid hU4
        have HA4 := Lib.hid ha4
        have HV4 : Hid (∀ i, v4.ownBlock = some i → i < w4.heap.size ∧ (i < w2.heap.size ∨ w3.heap.size ≤ i)) := fun i hi => ⟨(hU4.own i hi).2, (hv4 i hi).imp (fun h => (HOw.out i h).2) id⟩
        have hs4 := ha4.size
        clear hU4 ha4 hv4 HD
        go_wp2_with fail
        refine (HFk.out w4 HA4.out).mono ?_
        rintro e w5 ⟨rfl, v5, x5, k5, hk5, ha5, hv5⟩
        have hB5 : Below w1.heap.size w1 w5 := HB3.out.trans ((HU.out.belowA HA4.out HB3.out.size).trans (ha5.below (by omega) (fun i hi hc => by
          rcases hc with hc | hc
          · omega
          · have := HOw2.out i hc; omega)))
        have hD2 := kDo hk5 rfl (by show l.length ≤ _; omega) (Nat.le_refl _) (by show 0 < _; omega) (by show 0 ≤ _; omega) (HV1.out.next hB5) (HE1.out.on hB5) (by omega) (j := j) (er := er) (X := X) HGo.out HSt.out
        have hU5 := HU4.out.aside ha5 (fun hc => by
          rcases hc with hc | hc
          · omega
          · have := HOw2.out g hc; omega) (fun i hi hc => by
          have h6 := HV4.out i hi
          rcases hc with hc | hc
          · omega
          · have := HOw2.out i hc; omega)
        have HO5 : Hid (∀ i, v5.ownBlock = some i → w2.heap.size ≤ i ∧ i < w5.heap.size) := hk5.has.lt
        have HN5 : Hid (∀ i, v5.ownBlock = some i → w2.heap.size ≤ i ∧ (i < w3.heap.size ∨ w4.heap.size ≤ i)) := fun i hi => ⟨(hk5.has.lt i hi).1, (hv5 i hi).imp (fun h => (HOw2.out i h).2) id⟩
        have hs5 := ha5.size
        have hlk2 : Rp.look l j X.at_ er = .ok K := HLk.out
        have hD3 : Calls Tryz.prog 20 #[.pointer (some ⟨g2, 0, none⟩)] w5 fun e w6 => e = .returned (.tuple #[.int .i64 0, .int .i64 51]) ∧ ∃ s6 v6 x6 k6, (s6.b = l ∧ s6.down = true ∧ s6.bound = false ∧ s6.safe ≤ l.length ∧ s6.done ≤ 1 ∧ s6.told ≤ 5000000000) ∧ KDev w6 w2.heap.size g2 v6 s6 x6 k6 ∧ Aside (fun i => i = g2 ∨ v5.ownBlock = some i) w5 w6 ∧ ∀ i, v6.ownBlock = some i → v5.ownBlock = some i ∨ w5.heap.size ≤ i := by
          refine hD2.mono ?_
          rintro e w6 ⟨q1, t, v6, x6, k6, q2, q3, q4, q5⟩
          simp only [hlk2] at q1 q3
          rw [(power_cut (s := { Dv.new 1048576 with b := l, safe := l.length, bound := true, after := 0, keep := kn }) rfl rfl rfl hKl hLK rfl).1] at q1
          obtain ⟨p1, p2⟩ := power_cut (s := { Dv.new 1048576 with b := l, safe := l.length, bound := true, after := 0, keep := kn, told := t }) rfl rfl rfl hKl hLK rfl
          rw [p1] at q3
          have ht : t ≤ 0 + 4000000000 := q2
          exact ⟨q1, _, v6, x6, k6, ⟨p2, rfl, rfl, Nat.le_refl _, Nat.zero_le _, by show t ≤ _; omega⟩, q3, q4, q5⟩
        have HD3 := Lib.hid hD3
        have HU5 := Lib.hid hU5
        have HB5 := Lib.hid hB5
        clear hk5 ha5 hv5 hB5 hD2 hU5 hD3 HFl HFk
        go_wp2_with fail
        refine HD3.out.mono ?_
        rintro e w6 ⟨rfl, s6, v6, x6, k6, ⟨hs6, hdn6, hbd6, hsf6, hdo6, hto6⟩, hk6, ha6, hv6⟩
        have hU6 := HU5.out.aside ha6 (fun hc => by
          rcases hc with hc | hc
          · omega
          · have := HO5.out g hc; omega) (fun i hi hc => by
          have h6 := HV4.out i hi
          rcases hc with hc | hc
          · omega
          · have := HN5.out i hc; omega)
        have hB6 := ((HB5.out.trans (ha6.below (by have := HB5.out.size; omega) (fun i hi hc => by
          rcases hc with hc | hc
          · omega
          · have := HO5.out i hc; omega))))
        obtain ⟨TL, hTL⟩ : ∃ TL, TL = textOf l := ⟨_, rfl⟩
        have hUp := kUp hk6
        rw [hdn6] at hUp
        have HUp : Hid (∀ w', Below w6.heap.size w6 w' → Calls Tryz.prog 23 #[.pointer (some ⟨g2, 0, none⟩)] w' fun e w'' => e = .returned (.bool false) ∧ w'' = w') := fun w' hb => by
          have h1 := kUp (hk6.below hb)
          rw [hdn6] at h1
          exact h1
        have HAc := Lib.hid (all_says hk6 hs6 (by omega) hTL)
        have HSa : Hid (∀ w', Below w6.heap.size w6 w' → (convert 22 9 (.slice p l.length c)).run Tryz.prog w' = .ok (.string TL) w') := fun w' hb => by rw [hTL]; exact conv_str ((HA1.out.on hB6).on hb) c
        have HStt : Hid (∀ w', Below w6.heap.size w6 w' → Calls Tryz.prog 25 #[.pointer (some ⟨g2, 0, none⟩)] w' fun e w'' => e = .returned (.int .i64 0) ∧ (convert 22 9 (.slice p l.length c)).run Tryz.prog w'' = .ok (.string TL) w'' ∧ ∃ v7, UpD w'' w2.heap.size g2 v7 l 5000000000 ∧ Aside (fun i => i = g2 ∨ v6.ownBlock = some i) w' w'' ∧ ∀ i, v7.ownBlock = some i → v6.ownBlock = some i ∨ w'.heap.size ≤ i) := fun w' hb => by
          refine (kStart (hk6.below hb)).mono ?_
          have e1 : Dv.start s6 = (0, { s6 with down := false }) := by unfold Dv.start; rw [if_pos hdn6]
          rw [e1]
          rintro e w'' ⟨q1, v7, x7, k7, q2, q3, q4⟩
          have hlt6 := hk6.lt
          refine ⟨q1, ?_, v7, ⟨_, x7, k7, q2, hs6, rfl, hbd6, hsf6, by show s6.done ≤ _; omega, by show s6.told ≤ _; omega⟩, q3, q4⟩
          rw [hTL]
          refine conv_str ?_ c
          rcases HA1.out with h0 | ⟨bb, oo, hpp, hbb, hcc⟩
          · exact .inl h0
          · refine ((HA1.out.on hB6).on hb).aside q3 (fun b o hpb hc => ?_)
            rw [hpp] at hpb
            injection hpb with hpb
            injection hpb with hpb
            rcases hc with hc | hc
            · omega
            · have := (hk6.has.lt b hc).1; omega
        have hN6 : ∀ i, v6.ownBlock = some i → w2.heap.size ≤ i ∧ (i < w3.heap.size ∨ w4.heap.size ≤ i) := fun i hi => by
          rcases hv6 i hi with h | h
          · exact HN5.out i h
          · omega
        have hs6' := ha6.size
        have HN6 := Lib.hid hN6
        have HU6 := Lib.hid hU6
        have HB6 := Lib.hid hB6
        have hsa := HSa.out w6 (Below.refl _ _)
        clear hk6 ha6 hv6 hN6 hU6 hB6 hTL hUp hlk2 HD3 HU5 HB5
        go_wp2_with fail
        go_region_held_law (fun w' => (convert 22 9 (.slice p l.length c)).run Tryz.prog w' = .ok (.string TL) w') (first | assumption | exact HSa.out _ ((Below.refl _ _).drew)) (first
          | (go_at_call 23; refine (HUp.out _ ((Below.refl _ _).drew)).mono ?_; rintro e w' ⟨rfl, hw'⟩; rw [hw']; clear hw' w')
          | (go_at_call 17; refine (HAc.out _ ((Below.refl _ _).drew)).mono ?_; rintro e w7 ⟨q7, c7, rfl, h71, h72, h73, h74⟩; have h7s := HSa.out _ h73; have HB7 := Lib.hid h73; clear h73 h74)
          | (go_at_call 25; refine (HStt.out _ HB7.out).mono ?_; rintro e w8 ⟨rfl, h8s, v8, hU8, ha8, hv8⟩; have HU8 := Lib.hid hU8; have HA8 := Lib.hid ha8; have HV8 := Lib.hid hv8; clear hU8 ha8 hv8)
          | fail)
        have hB7 := HB6.out.trans (HB7.out.mono HB6.out.size)
        have hU7 := HU6.out.below HB7.out
        have hs7 := HB7.out.size
        have hs8 := HA8.out.size
        have hU8 := hU7.aside HA8.out (fun hc => by
          rcases hc with hc | hc
          · omega
          · have := HN6.out g hc; omega) (fun i hi hc => by
          have h6 := HV4.out i hi
          rcases hc with hc | hc
          · omega
          · have := HN6.out i hc; omega)
        have hB8 := hB7.trans (HA8.out.below (by have := hB7.size; omega) (fun i hi hc => by
          rcases hc with hc | hc
          · omega
          · have := HN6.out i hc; omega))
        have hD := HU8.out.doOk (by omega) (by omega) (HV1.out.next hB8) (HE1.out.on hB8) (by omega) HGo.out HSt.out HLk.out hKl
        rw [← HN1.out, ← HT.out] at hD
        have HD4 := Lib.hid hD
        have HUd := Lib.hid hU8
        have HB8 := Lib.hid hB8
        have HN8 : Hid (∀ i, v8.ownBlock = some i → w2.heap.size ≤ i ∧ (i < w3.heap.size ∨ w4.heap.size ≤ i)) := fun i hi => by
          rcases HV8.out i hi with h | h
          · exact HN6.out i h
          · omega
        clear hB7 hU7 hU8 hB8 hD h71 h72 h7s h8s HU8 HA8 HV8 HU6 HB6 HB7 HSa HStt HUp HAc hsa
        go_wp2_with fail
        refine HD4.out.mono ?_
        rintro e w9 ⟨rfl, v9, hU9, ha9, hv9⟩
        have hUd := HUd.out.aside ha9 (fun hc => by
          rcases hc with hc | hc
          · omega
          · have := HN8.out g hc; omega) (fun i hi hc => by
          have h6 := HV4.out i hi
          rcases hc with hc | hc
          · omega
          · have := HN8.out i hc; omega)
        obtain ⟨sd, xd, kd, hkd, hsd, -⟩ := hUd.out
        obtain ⟨sc, xc, kc, hkc, hsc, -⟩ := hU9.out
        obtain ⟨TX, hTX⟩ : ∃ TX, TX = textOf T := ⟨_, rfl⟩
        have HAd := Lib.hid (all_says hkd hsd (by have := HTl.out; omega) hTX)
        have HAc := Lib.hid (all_says hkc hsc (by have := HTl.out; omega) hTX)
        have HBz := Lib.hid (HB1.out.trans ((HB8.out.trans (ha9.below (by have := HB8.out.size; omega) (fun i hi hc => by
          rcases hc with hc | hc
          · omega
          · have := HN8.out i hc; omega))).mono HB1.out.size))
        clear hU9 ha9 hv9 hUd hkd hsd hkc hsc hTX HD4 HUd HB8
        go_wp2_with fail
        go_region_held_law (fun _ => True) (trivial) (first
          | (go_at_call_of 17 g; refine (HAd.out _ (by first | exact (Below.refl _ _).drew | assumption)).mono ?_; rintro e wd ⟨qd, cd, rfl, hd1, hd2, hd3, hd4⟩)
          | (go_at_call_of 17 g2; refine (HAc.out _ (by first | exact (Below.refl _ _).drew | assumption)).mono ?_; rintro e wc ⟨qc, cc, rfl, hc1, hc2, hc3, hc4⟩)
          | fail)
        all_goals
          go_wp2
          go_ret
          first
            | exact ⟨rfl, HBz.out.trans (hd3.mono HBz.out.size)⟩
            | exact ⟨rfl, HBz.out.trans (hc3.mono HBz.out.size)⟩
end Go.Proofs.YtmgcfkpmknogaaaGreatDoor

/- ScanPrefix, walked. -/
import Derived.Test.YtclhbhhlddbocaaGreatDoorL14A
import Derived.Test.YtclhbhhlddbocaaGreatDoorWR14S
namespace Go.Proofs.YtclhbhhlddbocaaGreatDoor
open Go.RowKit

theorem turn20 (a : Int) : ∃ m : Nat, m < 20 ∧ (a.tmod 20 + 20).tmod 20 = (m : Int) ∧ a.tmod 20 < 20 ∧ -20 < a.tmod 20 := by
  have h1 := Int.tmod_lt_of_pos a (show (0 : Int) < 20 by omega)
  have h2 := Int.lt_tmod_of_pos a (show (0 : Int) < 20 by omega)
  have h3 : (a.tmod 20 + 20).tmod 20 = (a.tmod 20 + 20) % 20 := Int.tmod_eq_emod_of_nonneg (by omega)
  exact ⟨((a.tmod 20 + 20) % 20).toNat, by omega, by rw [h3]; omega, h1, h2⟩

theorem At.pre14 {w : World} {p : Option Addr} {l : List UInt8} (h : At w p l) (n : Nat) : At w p (l.take n) := by
  rcases h with h | ⟨b, o, rfl, hb, hc⟩
  · exact .inl (by simp [h])
  · exact .inr ⟨b, o, rfl, hb, cells_take hc n⟩

/-- while the frames are told to a walk: the file and the walk, behind j frames -/
structure PfI (w1 w2 wr : World) (g x k : Nat) (v : Value) (l : List UInt8) (j : Nat) (X : Sc.Pos) : Prop where
  dev : KDev wr w1.heap.size g v { Dv.new 1048576 with b := l, safe := l.length, told := X.read } x k
  walk : ∃ v' g', KWalk wr w2.heap.size (w2.heap.size + 1) w2.heap.size j v' g' X.wk (fun i => i = g ∨ v.ownBlock = some i)
  aside : Aside (fun i => i = g) w2 wr
  goes : Sc.goes l j = some X

set_option maxRecDepth 100000 in
set_option maxHeartbeats 8000000 in
theorem scanPrefix_any (LIVE : Live14) (p : Option Addr) (c : Nat) (l : List UInt8) (hl : l.length ≤ 140737488351232) (hc : l.length ≤ c) (a : Int) (w : World) (hv : Hv w) (hA : At w p l) :
    Calls Tryz.prog 12 #[.slice p l.length c, .int .i64 a] w fun e w' => e = .returned (.bool true) ∧ Below w.heap.size w w' := by
  have HLv := Lib.hid (LIVE w hv)
  have HHv := Lib.hid hv
  have HA := Lib.hid hA
  clear hv hA LIVE
  go_enter Tryz.func12, Tryz.ntmps12
  go_wp2_with fail
  refine HLv.out.mono ?_
  rintro e w1 ⟨rfl, hb1⟩
  have HB1 := Lib.hid hb1
  clear hb1 HLv
  by_cases hbig : 100000 < l.length
  · have g0 : (100000 : Int) < (l.length : Int) := by omega
    clear hbig
    go_wp2
    go_ret
    exact ⟨rfl, HB1.out⟩
  have g0 : ¬ (100000 : Int) < (l.length : Int) := by omega
  have HLd := Lib.hid (laid14 p c l (by omega) w1 (HA.out.on HB1.out))
  have hll : l.length ≤ 100000 := by omega
  clear hbig
  go_wp2_with fail
  refine HLd.out.mono ?_
  rintro e w2 ⟨g, r, v, u, x, k, rfl, h2⟩
  have HH2 := Lib.hid h2
  clear h2 HLd
  by_cases hbig : 20000 < l.length
  · have g1 : (20000 : Int) < (l.length : Int) := by omega
    have g2 : decide (20000 < l.length) = true := decide_eq_true hbig
    go_wp2
    go_ret
    exact ⟨rfl, HB1.out.trans (HH2.out.below.mono HB1.out.size)⟩
  have g1 : ¬ (20000 : Int) < (l.length : Int) := by omega
  have g2 : decide (20000 < l.length) = false := decide_eq_false hbig
  have hl2 : l.length ≤ 20000 := by omega
  have HN := Lib.hid (kNew14 w2 (fun i => i = g ∨ v.ownBlock = some i) (fun i hi => by
    rcases hi with hi | hi
    · rw [hi]; exact HH2.out.dev.lt
    · exact (HH2.out.dev.has.lt i hi).2))
  clear hbig
  go_wp2_with fail
  refine HN.out.mono ?_
  rintro e w3 ⟨rfl, hk3, hb3, hs3⟩
  have HI3 : Hid (PfI w1 w2 w3 g x k v l 0 Sc.begin_) := ⟨HH2.out.dev.below hb3, ⟨_, _, hk3⟩, aside_new hb3 _, rfl⟩
  have HB2 := Lib.hid HH2.out.below
  have hg1 := HH2.out.dev.base
  have hg2 := HH2.out.dev.lt
  obtain ⟨m, hm, hmm, hq1, hq2⟩ := turn20 a
  clear hk3 hb3 hs3 HN HH2
  have HG : Hid (∀ i, i = g ∨ v.ownBlock = some i → (fun i => i = g ∨ v.ownBlock = some i) i) := fun i hi => hi
  go_wp2_with fail
  clear hq1 hq2 hmm
  have hB : 1 < w1.heap.size := (HHv.out.next HB1.out).lt
  have HHB := Lib.hid hB
  clear hB
  go_loopw [9, 10] (fun v9 v10 wr => ∃ (j : Nat) (X : Sc.Pos), v9 = .int .i64 (X.at_ : Nat) ∧ v10 = .int .i64 (j : Nat) ∧ j ≤ m ∧ Hid (PfI w1 w2 wr g x k v l j X)) (fun _ v10 _ => m - (intOf v10).toNat)
  case atStart => exact ⟨0, Sc.begin_, rfl, rfl, Nat.zero_le _, HI3⟩
  case round =>
    obtain ⟨j, X, rfl, rfl, hjm, HI⟩ := hrel
    obtain ⟨hgd, hat0, h8, hrd⟩ := Sc.goes_good HI.out.goes
    have hat : X.at_ ≤ l.length := hat0
    have hatI : (X.at_ : Int) ≤ 20000 := by omega
    have hjI : (j : Int) ≤ 20 := by omega
    clear hgd hat0
    by_cases hlt : j < m
    case' neg =>
      have g3 : ¬ (j : Int) < (m : Int) := by omega
      have HGo := Lib.hid HI.out.goes
      obtain ⟨wx, hwx⟩ : ∃ wx, wx = wr := ⟨_, rfl⟩
      have HWx := Lib.hid hwx.symm
      have HKx : Hid (∃ nn v4 g4, KWalk wx w2.heap.size (w2.heap.size + 1) w2.heap.size nn v4 g4 X.wk (fun i => i = g ∨ v.ownBlock = some i)) := by
        rw [hwx]
        obtain ⟨v', g', hwk⟩ := HI.out.walk
        exact ⟨_, _, _, hwk⟩
      have HAx : Hid (Aside (fun i => i = g) w2 wx) := by rw [hwx]; exact HI.out.aside
      clear HI hwx
      go_wp2_with fail
    case' pos =>
      have g3 : (j : Int) < (m : Int) := by omega
      obtain ⟨v', g', hwk⟩ := HI.out.walk
      have hA := kAt HI.out.dev rfl (by show l.length ≤ _; omega) (by show X.read + l.length ≤ _; omega) (HHv.out.next (HB1.out.trans ((HB2.out.trans (HI.out.aside.below HB2.out.size (fun i hi hc => by omega))).mono HB1.out.size))) HHB.out (X.at_ : Nat)
      have HSt : Hid (Sc.step l X = match Sc.at_ l (X.at_ : Nat) with
        | .error e => .error e
        | .ok (f, n) => if Sc.may X.wk f (X.at_ : Nat) = true then .ok ⟨n, Sc.take X.wk f (X.at_ : Nat), X.read + Sc.reads l (X.at_ : Nat)⟩ else .error 143) := rfl
      have HOk : Hid (∀ f n, Sc.at_ l (X.at_ : Nat) = .ok (f, n) → f.wf ∧ n ≤ l.length ∧ X.at_ < n) := fun f n he => by
        obtain ⟨a1, a2, a3, a4, a5, a6, a7⟩ := Sc.at_ok he
        exact ⟨a4, a6, by rw [a5]; omega⟩
      have HNe : Hid (∀ er, Sc.at_ l (X.at_ : Nat) = .error er → er ≠ 0) := fun er he => at_ne14 he
      obtain ⟨ra, hra⟩ : ∃ ra, ra = Sc.at_ l (X.at_ : Nat) := ⟨_, rfl⟩
      rw [← hra] at HSt HOk HNe
      have hA2 : Calls Tryz.prog 25 #[.pointer (some ⟨g, 0, none⟩), .int .i64 (X.at_ : Nat)] wr fun e w' => AtA ra wr e w' ∧ KDev w' w1.heap.size g v { Dv.new 1048576 with b := l, safe := l.length, told := X.read + Sc.reads l (X.at_ : Nat) } x k ∧ Aside (fun k => k = g) wr w' := by rw [hra]; exact hA
      have HAn := Lib.hid hA2
      have HWk := Lib.hid hwk
      clear hA hA2 hra hwk
      go_wp2_with fail
      refine HAn.out.mono ?_
      rintro e w4 ⟨hans, hdv, has⟩
      have hw4 : KWalk w4 w2.heap.size (w2.heap.size + 1) w2.heap.size j v' g' X.wk (fun i => i = g ∨ v.ownBlock = some i) := HWk.out.aside (has.mono fun i _ hi => .inl hi) (fun i hi => .inl hi) (fun i hi => Nat.lt_of_lt_of_le (HWk.out.low i hi) has.size)
      have haw : Aside (fun i => i = g) w2 w4 := HI.out.aside.trans has (fun _ _ h => h)
      have HGo := Lib.hid HI.out.goes
      rcases ra with er | ⟨f, mm⟩
      case' error =>
        replace hans : e = .returned (.tuple #[.agg #[.int .i64 0, .int .i64 0, .slice none 0 0, .int .i64 0, .int .i64 0, .int .i64 0, .slice none 0 0, .int .i64 0, .int .i64 0, .int .i64 0, .slice none 0 0], .int .i64 0, .int .i64 (er : Nat)]) := hans
        subst hans
        have hne := HNe.out er rfl
        have g4 : ((er : Int) == 0) = false := by rw [beq_eq_false_iff_ne]; omega
        have g5 : ((er : Int) != 0) = true := by rw [bne_iff_ne]; omega
        obtain ⟨wx, hwx⟩ : ∃ wx, wx = w4.alloc (.cells #[.int .i64 0, .int .i64 0, .slice none 0 0, .int .i64 0, .int .i64 0, .int .i64 0, .slice none 0 0, .int .i64 0, .int .i64 0, .int .i64 0, .slice none 0 0] 30) := ⟨_, rfl⟩
        have hbx : Below w4.heap.size w4 wx := by rw [hwx]; exact (Below.refl _ _).alloc (Nat.le_refl _) _
        have HWx := Lib.hid hwx.symm
        have HKx : Hid (∃ nn v4 g4, KWalk wx w2.heap.size (w2.heap.size + 1) w2.heap.size nn v4 g4 X.wk (fun i => i = g ∨ v.ownBlock = some i)) := ⟨_, _, _, hw4.on hbx⟩
        have HAx : Hid (Aside (fun i => i = g) w2 wx) := haw.trans (aside_new hbx (fun i => i = g)) (fun _ _ h => h)
        clear hw4 hdv haw has hne HNe HOk HSt HAn HWk HI hbx hwx
        go_wp2_with fail
      case' ok =>
        obtain ⟨uu, rfl, hfo⟩ : ∃ u, e = .returned (.tuple #[.agg u, .int .i64 (mm : Nat), .int .i64 0]) ∧ FOwn w4 wr.heap.size u f := hans
        obtain ⟨hwf, hml, hmx⟩ := HOk.out f mm rfl
        have hfl := hfo.lies
        obtain ⟨sp, sc, bp, bc, ep, ec, hu, -⟩ := hfo.out
        unfold cells11 at hu
        subst hu
        obtain ⟨b0, hb0⟩ : ∃ x, x = f.kind := ⟨_, rfl⟩
        obtain ⟨b1, hb1⟩ : ∃ x, x = f.number := ⟨_, rfl⟩
        obtain ⟨b2, hbb2⟩ : ∃ x, x = f.cols.length := ⟨_, rfl⟩
        obtain ⟨b3, hb3⟩ : ∃ x, x = f.seq := ⟨_, rfl⟩
        obtain ⟨b4, hb4⟩ : ∃ x, x = f.first := ⟨_, rfl⟩
        obtain ⟨b5, hb5⟩ : ∃ x, x = f.rows := ⟨_, rfl⟩
        obtain ⟨b6, hb6⟩ : ∃ x, x = f.block.length := ⟨_, rfl⟩
        obtain ⟨b7, hb7⟩ : ∃ x, x = f.index.at_ := ⟨_, rfl⟩
        obtain ⟨b8, hb8⟩ : ∃ x, x = f.index.frames := ⟨_, rfl⟩
        obtain ⟨b9, hb9⟩ : ∃ x, x = f.index.rows := ⟨_, rfl⟩
        obtain ⟨b10, hb10⟩ : ∃ x, x = f.index.entries.length := ⟨_, rfl⟩
        rw [← hb0, ← hb1, ← hbb2, ← hb3, ← hb4, ← hb5, ← hb6, ← hb7, ← hb8, ← hb9, ← hb10] at hfl ⊢
        obtain ⟨w5, hw5⟩ : ∃ w5, w5 = w4.alloc (.cells #[.int .i64 b0, .int .i64 b1, .slice sp b2 sc, .int .i64 b3, .int .i64 b4, .int .i64 b5, .slice bp b6 bc, .int .i64 b7, .int .i64 b8, .int .i64 b9, .slice ep b10 ec] 30) := ⟨_, rfl⟩
        have hb45 : Below w4.heap.size w4 w5 := by rw [hw5]; exact (Below.refl _ _).alloc (Nat.le_refl _) _
        have HW5 : Hid (w4.alloc (.cells #[.int .i64 b0, .int .i64 b1, .slice sp b2 sc, .int .i64 b3, .int .i64 b4, .int .i64 b5, .slice bp b6 bc, .int .i64 b7, .int .i64 b8, .int .i64 b9, .slice ep b10 ec] 30) = w5) := hw5.symm
        have hk5 := hw4.on hb45
        have hA5 : Aside (fun i => i = g) w2 w5 := haw.trans (aside_new hb45 (fun i => i = g)) (fun _ _ h => h)
        have hv5 : Hv w5 := HHv.out.next (HB1.out.trans ((HB2.out.trans (hA5.below HB2.out.size (fun i hi hc => by omega))).mono HB1.out.size))
        have HNx := Lib.hid (kNext hk5 f hwf _ (hfl.on hb45) (X.at_ : Nat) hv5 (by omega) hA5.size)
        have HK5 := Lib.hid hk5
        have HD5 := Lib.hid (hdv.below hb45)
        have HA5 := Lib.hid hA5
        obtain ⟨mb, hmb⟩ : ∃ mb, mb = Sc.may X.wk f (X.at_ : Nat) := ⟨_, rfl⟩
        rw [← hmb] at HNx
        have HSt2 : Hid (Sc.step l X = if mb = true then .ok ⟨mm, Sc.take X.wk f (X.at_ : Nat), X.read + Sc.reads l (X.at_ : Nat)⟩ else .error 143) := by rw [hmb]; exact HSt.out
        have HTk : Hid (Sc.next X.wk f (X.at_ : Nat) = if mb = true then Sc.take X.wk f (X.at_ : Nat) else X.wk) := by rw [hmb]; exact rfl
        have hmI : (mm : Int) ≤ 20000 := by omega
        clear hfo hfl hw4 hdv haw has hk5 hv5 hA5 hb45 hw5 hmb HSt HNe HOk HAn HWk HI hb0 hb1 hbb2 hb3 hb4 hb5 hb6 hb7 hb8 hb9 hb10 hwf
        go_wp2_with fail
        rw [HW5.out]
        refine HNx.out.mono ?_
        rintro e wx ⟨rfl, v4, g4, hk4, ha4, hv4⟩
        obtain ⟨hd4, haw4⟩ := WhI.after HD5.out HK5.out HA5.out ha4 HG.out hg2
        have HK4 := Lib.hid hk4
        have HD4 := Lib.hid hd4
        have HAx := Lib.hid haw4
        clear hk4 ha4 hv4 hd4 haw4 HNx HK5 HD5 HA5 HW5
        rcases mb with _ | _
        case' true =>
          have HE := Lib.hid (Sc.goes_succ HGo.out HSt2.out)
          have HT2 : Hid (Sc.next X.wk f (X.at_ : Nat) = Sc.take X.wk f (X.at_ : Nat)) := HTk.out
          rw [HT2.out] at HK4
          have HI2 : Hid (PfI w1 w2 wx g x k v l (j + 1) ⟨mm, Sc.take X.wk f (X.at_ : Nat), X.read + Sc.reads l (X.at_ : Nat)⟩) := ⟨HD4.out, ⟨_, _, HK4.out⟩, HAx.out, HE.out⟩
          clear HSt2 HTk HK4 HD4 HAx HE HT2
          go_wp2
          go_roundw
          case rel => exact ⟨j + 1, _, rfl, by go_num, by omega, HI2⟩
          case measure => simp [intOf]; omega
        case' false =>
          have HT2 : Hid (Sc.next X.wk f (X.at_ : Nat) = X.wk) := HTk.out
          rw [HT2.out] at HK4
          have HKx : Hid (∃ nn v4 g4, KWalk wx w2.heap.size (w2.heap.size + 1) w2.heap.size nn v4 g4 X.wk (fun i => i = g ∨ v.ownBlock = some i)) := ⟨_, _, _, HK4.out⟩
          clear HSt2 HTk HT2 HK4 HD4
          go_wp2_with fail
    all_goals
      (first | rw [HWx.out] | skip)
      obtain ⟨t, ht⟩ : ∃ t, t = l.take X.at_ := ⟨_, rfl⟩
      have htl : t.length = X.at_ := by rw [ht, List.length_take]; omega
      have hBx : Below w1.heap.size w1 wx := HB2.out.trans (HAx.out.below HB2.out.size (fun i hi hc => by omega))
      have hL := laid14 p c t (by omega) wx (by rw [ht]; exact ((HA.out.on HB1.out).on hBx).pre14 _)
      rw [htl] at hL
      have HL2 := Lib.hid hL
      have HBx := Lib.hid hBx
      have HT := Lib.hid ht
      have HTl := Lib.hid htl
      clear hL hBx ht htl HI3 HAx HB2
      refine HL2.out.mono ?_
      rintro e w6 ⟨c2, r2, v2, u2, x2, k2, rfl, h6⟩
      have hHvx : Hv wx := (HHv.out.next HB1.out).next HBx.out
      have hW := kWhole (G := fun i => i = c2 ∨ v2.ownBlock = some i) h6.dev rfl (by show t.length ≤ _; have := HTl.out; omega) (by show 0 ≤ _; omega) (hHvx.next h6.below) hHvx.lt h6.below.size (fun i hi => hi) (fun i hi => by
        rcases hi with hi | hi
        · rw [hi]; exact h6.dev.lt
        · exact (h6.dev.has.lt i hi).2)
      have HW := Lib.hid hW
      have HB6 := Lib.hid h6.below
      have HLt : Hid (wx.heap.size ≤ c2) := h6.dev.base
      clear hW h6 HL2 hHvx
      go_wp2_with fail
      refine HW.out.mono ?_
      rintro e w7 ⟨j2, X2, er2, v7, g7, hgo2, hst2, he7, hwk7, hdv7, has7⟩
      have hgo3 : Sc.goes t j2 = some X2 := hgo2
      have hst3 : Sc.step t X2 = .error er2 := hst2
      obtain ⟨rr, hgt⟩ := Sc.goes_take hat HGo.out (Nat.le_refl _)
      rw [← HT.out] at hgt
      obtain ⟨q1, q2, q3⟩ := Sc.goes_uniq hgo3 hst3 hgt (Sc.step_end (b := t) (x := ⟨X.at_, X.wk, rr⟩) HTl.out.symm)
      subst q1
      subst q2
      subst q3
      obtain ⟨nn, va, ga, hka⟩ := HKx.out
      have hB7 : Below wx.heap.size wx w7 := HB6.out.trans (has7.below HB6.out.size (fun i hi hc => by have := HLt.out; omega))
      have hka7 := hka.on hB7
      have hkb7 := hwk7
      obtain ⟨wk, hwk⟩ : ∃ wk, wk = X.wk := ⟨_, rfl⟩
      obtain ⟨A1, hA1⟩ : ∃ A1, A1 = w2.heap.size + 1 := ⟨_, rfl⟩
      obtain ⟨A2, hA2⟩ : ∃ A2, A2 = w6.heap.size + 1 := ⟨_, rfl⟩
      simp only at hkb7
      rw [← hwk, ← hA1] at hka7
      rw [← hwk, ← hA2] at hkb7
      have he8 : e = .returned (.tuple #[.pointer (some ⟨A2, 0, none⟩), .int .i64 (X.at_ : Nat), .int .i64 140]) := by rw [hA2]; exact he7
      subst he8
      rw [← hA1]
      have HF : Hid (∀ b, b = A1 ∨ b = A2 → Calls Tryz.prog 39 #[.pointer (some ⟨b, 0, none⟩)] w7 fun e w'' => e = .returned (.int .i64 wk.frames) ∧ w'' = w7) := fun b hb => by
        rcases hb with rfl | rfl
        · exact kFrames hka7
        · exact kFrames hkb7
      have HR : Hid (∀ b, b = A1 ∨ b = A2 → Calls Tryz.prog 40 #[.pointer (some ⟨b, 0, none⟩)] w7 fun e w'' => e = .returned (.int .i64 wk.rows) ∧ w'' = w7) := fun b hb => by
        rcases hb with rfl | rfl
        · exact kRows hka7
        · exact kRows hkb7
      have HNb : Hid (∀ b, b = A1 ∨ b = A2 → Calls Tryz.prog 41 #[.pointer (some ⟨b, 0, none⟩)] w7 fun e w'' => e = .returned (.int .i64 wk.number) ∧ w'' = w7) := fun b hb => by
        rcases hb with rfl | rfl
        · exact kNumber hka7
        · exact kNumber hkb7
      have HSi : Hid (∀ b, b = A1 ∨ b = A2 → Calls Tryz.prog 42 #[.pointer (some ⟨b, 0, none⟩)] w7 fun e w'' => e = .returned (.int .i64 wk.since) ∧ w'' = w7) := fun b hb => by
        rcases hb with rfl | rfl
        · exact kSince hka7
        · exact kSince hkb7
      have HCl : Hid (∀ b, b = A1 ∨ b = A2 → Calls Tryz.prog 43 #[.pointer (some ⟨b, 0, none⟩)] w7 fun e w'' => e = .returned (.bool wk.closed) ∧ w'' = w7) := fun b hb => by
        rcases hb with rfl | rfl
        · exact kClosed hka7
        · exact kClosed hkb7
      have HE2 : Hid (Calls Tryz.prog 45 #[.pointer (some ⟨A2, 0, none⟩)] w7 fun e w'' => ∃ q cap, e = .returned (.slice q wk.ents.length cap) ∧ Hid (Ents w'' q wk.ents) ∧ Hid (Below w7.heap.size w7 w'')) := (kEntries hkb7).mono fun e w'' ⟨q, cap, h1, h2, h3⟩ => by
        obtain ⟨p', c', hv', -, he', -⟩ := h2.ents
        injection hv' with hp' _ _
        subst hp'
        exact ⟨q, cap, h1, he', h3⟩
      have HE1 : Hid (∀ w', Hid (Below w7.heap.size w7 w') → Calls Tryz.prog 45 #[.pointer (some ⟨A1, 0, none⟩)] w' fun e w'' => ∃ q cap, e = .returned (.slice q wk.ents.length cap) ∧ Hid (Ents w'' q wk.ents) ∧ Hid (Below w'.heap.size w' w'')) := fun w' hb => (kEntries (hka7.on hb.out)).mono fun e w'' ⟨q, cap, h1, h2, h3⟩ => by
        obtain ⟨p', c', hv', -, he', -⟩ := h2.ents
        injection hv' with hp' _ _
        subst hp'
        exact ⟨q, cap, h1, he', h3⟩
      have HEl := Lib.hid hka7.good.ents
      have HBz : Hid (Below w.heap.size w w7) := HB1.out.trans ((HBx.out.trans (hB7.mono HBx.out.size)).mono HB1.out.size)
      clear hgo2 hst2 he7 hwk7 hdv7 has7 hgo3 hst3 hgt hka hB7 hka7 hkb7 hwk hA1 hA2 HW HB6 HLt HKx HGo HT HTl HBx HA HHv HB1
      go_wp2_with fail
      refine (HF.out _ (.inr rfl)).mono ?_
      rintro e w8 ⟨rfl, hw8⟩
      rw [hw8]
      clear hw8 w8
      go_wp2_with fail
      refine (HF.out _ (.inl rfl)).mono ?_
      rintro e w8 ⟨rfl, hw8⟩
      rw [hw8]
      clear hw8 w8
      go_wp2_with fail
      refine (HR.out _ (.inr rfl)).mono ?_
      rintro e w8 ⟨rfl, hw8⟩
      rw [hw8]
      clear hw8 w8
      go_wp2_with fail
      refine (HR.out _ (.inl rfl)).mono ?_
      rintro e w8 ⟨rfl, hw8⟩
      rw [hw8]
      clear hw8 w8
      go_wp2_with fail
      refine (HNb.out _ (.inr rfl)).mono ?_
      rintro e w8 ⟨rfl, hw8⟩
      rw [hw8]
      clear hw8 w8
      go_wp2_with fail
      refine (HNb.out _ (.inl rfl)).mono ?_
      rintro e w8 ⟨rfl, hw8⟩
      rw [hw8]
      clear hw8 w8
      go_wp2_with fail
      refine (HSi.out _ (.inr rfl)).mono ?_
      rintro e w8 ⟨rfl, hw8⟩
      rw [hw8]
      clear hw8 w8
      go_wp2_with fail
      refine (HSi.out _ (.inl rfl)).mono ?_
      rintro e w8 ⟨rfl, hw8⟩
      rw [hw8]
      clear hw8 w8
      go_wp2_with fail
      refine (HCl.out _ (.inr rfl)).mono ?_
      rintro e w8 ⟨rfl, hw8⟩
      rw [hw8]
      clear hw8 w8
      go_wp2_with fail
      refine (HCl.out _ (.inl rfl)).mono ?_
      rintro e w8 ⟨rfl, hw8⟩
      rw [hw8]
      clear hw8 w8
      go_wp2_with fail
      refine HE2.out.mono ?_
      rintro e w9 ⟨q9, cap9, rfl, hx9, hb9⟩
      go_wp2_with fail
      refine (HE1.out _ hb9).mono ?_
      rintro e w10 ⟨q10, cap10, rfl, hx10, hb10⟩
      have HSm := Lib.hid (refSameEnts14 q9 q10 cap9 cap10 wk.ents wk.ents HEl.out w10 (hx9.out.on hb10.out) hx10.out)
      have HBy : Hid (Below w.heap.size w w10) := HBz.out.trans ((hb9.out.trans (hb10.out.mono hb9.out.size)).mono HBz.out.size)
      have e0 : decide (wk.ents.map Ent.tup = wk.ents.map Ent.tup) = true := decide_eq_true rfl
      rw [e0] at HSm
      clear hx9 hx10 hb9 hb10 e0
      go_wp2_with fail
      refine HSm.out.mono ?_
      rintro e w11 ⟨rfl, n11, rfl⟩
      have HB11 := Lib.hid (below_drewN HBy.out n11)
      clear HSm HBy
      go_wp2
      go_ret
      exact ⟨rfl, HB11.out⟩
end Go.Proofs.YtclhbhhlddbocaaGreatDoor

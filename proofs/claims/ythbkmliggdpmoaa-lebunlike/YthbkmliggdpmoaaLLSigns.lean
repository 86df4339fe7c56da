/- LebSigns, over what the laws ask of package leb. -/
import Derived.Test.YthbkmliggdpmoaaLebC
import Derived.Deep.DeepCutAuto
namespace Go.Proofs.Ythbkmliggdpmoaa
open Go.RowKit

/-- how far a number is from 0, of the two sides the lower one from -1 on -/
def Leb.mag (n : Int) : Nat := if n < 0 then (-(n + 1)).toNat else n.toNat

theorem Leb.putF_pair (f a : Nat) : (Leb.putF f (2 * a + 1)).length = (Leb.putF f (2 * a)).length := by
  cases f with
  | zero => rfl
  | succ f =>
    rw [Leb.putF, Leb.putF]
    by_cases h : 2 * a < 128
    · rw [if_pos h, if_pos (by omega)]; rfl
    · rw [if_neg h, if_neg (by omega), show (2 * a + 1) / 128 = 2 * a / 128 by omega]; rfl
theorem Leb.zig_len (n : Int) : (Leb.put (Leb.zig n)).length = (Leb.put (2 * Leb.mag n)).length := by
  unfold Leb.zig Leb.mag
  by_cases h : 0 ≤ n
  · rw [if_pos h, if_neg (by omega)]
  · rw [if_neg h, if_pos (by omega)]
    exact Leb.putF_pair 10 _
theorem Leb.zig_near (n m : Int) (h : Leb.mag n ≤ Leb.mag m) : (Leb.put (Leb.zig n)).length ≤ (Leb.put (Leb.zig m)).length := by
  rw [Leb.zig_len, Leb.zig_len]
  exact Leb.putF_mono 10 _ _ (by omega)
theorem Leb.zig_one (n : Int) (h : Leb.mag n ≤ 63) : (Leb.put (Leb.zig n)).length = 1 := by
  rw [Leb.zig_len]
  unfold Leb.put
  rw [Leb.putF, if_pos (by omega)]
  rfl
theorem Leb.zig_lt (n : Int) (h1 : -9223372036854775808 ≤ n) (h2 : n ≤ 9223372036854775807) : Leb.zig n < 18446744073709551616 := by
  unfold Leb.zig; split <;> omega
theorem Leb.zag_ge (u : Nat) (h : u < 18446744073709551616) : -9223372036854775808 ≤ Leb.zag u ∧ Leb.zag u ≤ 9223372036854775807 := by
  unfold Leb.zag; split <;> omega

theorem i64_of {a b : Int} (h : a = b) : Value.int .i64 a = Value.int .i64 b := by rw [h]

set_option maxHeartbeats 1000000 in
theorem lebSigns_any {I : World → Prop} (K : LebOk I) (n m : Int) (u : Nat) (hn1 : -9223372036854775808 ≤ n) (hn2 : n ≤ 9223372036854775807) (hm1 : -9223372036854775808 ≤ m) (hm2 : m ≤ 9223372036854775807) (hu : u < 18446744073709551616) (w : World) (hI : I w) :
    Calls Try.prog 7 #[.int .i64 n, .int .i64 m, .int .u64 u] w fun e w' => e = .returned (.bool true) ∧ Below w.heap.size w w' := by
  have HK := Lib.hid K
  have HI := Lib.hid hI
  have HZ1 := Lib.hid (Leb.zag_zig n)
  have HZ2 := Lib.hid (Leb.zig_zag u)
  have HZ3 := Lib.hid (Leb.zig_lt n hn1 hn2)
  have HZ4 := Lib.hid (Leb.zig_lt m hm1 hm2)
  have HZ5 := Lib.hid (Leb.zag_ge u hu)
  have HZ6 := Lib.hid (Leb.zig_near n m)
  have HZ7 := Lib.hid (Leb.zig_one n)
  have HL1 := Lib.hid (Leb.put_length_le (Leb.zig n))
  have HL2 := Lib.hid (Leb.put_length_le (Leb.zig m))
  clear hI
  obtain ⟨a, ha⟩ : ∃ a, a = Leb.mag n := ⟨_, rfl⟩
  obtain ⟨b, hb⟩ : ∃ b, b = Leb.mag m := ⟨_, rfl⟩
  have ha1 : a ≤ 9223372036854775807 := by rw [ha]; unfold Leb.mag; split <;> omega
  have hb1 : b ≤ 9223372036854775807 := by rw [hb]; unfold Leb.mag; split <;> omega
  have HMa : Hid ((n < 0 → (a : Int) = -(n + 1)) ∧ (¬ n < 0 → (a : Int) = n)) := by rw [ha]; unfold Leb.mag; constructor <;> (intro h; simp [h]; try omega)
  have HMb : Hid ((m < 0 → (b : Int) = -(m + 1)) ∧ (¬ m < 0 → (b : Int) = m)) := by rw [hb]; unfold Leb.mag; constructor <;> (intro h; simp [h]; try omega)
  rw [← ha, ← hb] at HZ6
  rw [← ha] at HZ7
  clear ha hb
  go_enter Try.func7, Try.ntmps7
  go_wp2_with fail
  refine (HK.out.zig n w hn1 hn2 HI.out).mono ?_
  rintro e w1 ⟨rfl, h⟩
  have B1 := Lib.hid h
  clear h
  go_wp2_with fail
  refine (HK.out.zag _ _ HZ3.out (HK.out.on HI.out B1.out)).mono ?_
  rintro e w2 ⟨rfl, h⟩
  have B2 := Lib.hid (B1.out.trans (h.mono B1.out.size))
  clear h
  rw [HZ1.out]
  go_wp2_with fail
  refine (HK.out.zag u _ hu (HK.out.on HI.out B2.out)).mono ?_
  rintro e w3 ⟨rfl, h⟩
  have B3 := Lib.hid (B2.out.trans (h.mono B2.out.size))
  clear h
  go_wp2_with fail
  refine (HK.out.zig _ _ HZ5.out.1 HZ5.out.2 (HK.out.on HI.out B3.out)).mono ?_
  rintro e w4 ⟨rfl, h⟩
  have B4 := Lib.hid (B3.out.trans (h.mono B3.out.size))
  clear h
  rw [HZ2.out]
  generalize Leb.zag u = zu
  clear HZ1 HZ2 HZ5
  go_upto_if 27 with fail
  go_cut [8] from 12 (fun v8 wx => v8 = .int .i64 a ∧ wx = w4)
  case first =>
    have hMa := HMa.out
    by_cases h0 : n < 0
    · have e := hMa.1 h0
      clear hMa
      go_wp2
      go_meet
      case rel => exact ⟨i64_of (by omega), rfl⟩
    · have e := hMa.2 (by omega)
      clear hMa
      go_wp2
      go_meet
      case rel => exact ⟨i64_of (by omega), rfl⟩
  case rest =>
    obtain ⟨rfl, hwc⟩ := hcut
    rw [hwc]
    clear hwc wc
    go_upto_if 32 with fail
    go_cut [9] from 12 (fun v9 wx => v9 = .int .i64 b ∧ wx = w4)
    case first =>
      have hMb := HMb.out
      by_cases h0 : m < 0
      · have e := hMb.1 h0
        clear hMb
        go_wp2
        go_meet
        case rel => exact ⟨i64_of (by omega), rfl⟩
      · have e := hMb.2 (by omega)
        clear hMb
        go_wp2
        go_meet
        case rel => exact ⟨i64_of (by omega), rfl⟩
    case rest =>
      obtain ⟨rfl, hwc⟩ := hcut
      rw [hwc]
      clear hwc wc
      go_upto_region 8 with fail
      go_cut [10] from 12 (fun v10 wx => v10 = .bool true ∧ Hid (Below w.heap.size w wx))
      case first =>
        by_cases hab : (b : Int) < (a : Int)
        · go_wp2
          go_meet
          case rel => exact ⟨rfl, B4⟩
        · have hab' : (a : Int) ≤ (b : Int) := by omega
          go_wp2_with fail
          refine (HK.out.zig n _ hn1 hn2 (HK.out.on HI.out B4.out)).mono ?_
          rintro e w5 ⟨rfl, h⟩
          have B5 := Lib.hid (B4.out.trans (h.mono B4.out.size))
          clear h
          go_wp2_with fail
          refine (HK.out.len _ _ HZ3.out (HK.out.on HI.out B5.out)).mono ?_
          rintro e w6 ⟨rfl, h⟩
          have B6 := Lib.hid (B5.out.trans (h.mono B5.out.size))
          clear h
          go_wp2_with fail
          refine (HK.out.zig m _ hm1 hm2 (HK.out.on HI.out B6.out)).mono ?_
          rintro e w7 ⟨rfl, h⟩
          have B7 := Lib.hid (B6.out.trans (h.mono B6.out.size))
          clear h
          go_wp2_with fail
          refine (HK.out.len _ _ HZ4.out (HK.out.on HI.out B7.out)).mono ?_
          rintro e w8 ⟨rfl, h⟩
          have B8 := Lib.hid (B7.out.trans (h.mono B7.out.size))
          clear h
          have hle := HZ6.out (by omega)
          generalize (Leb.put (Leb.zig n)).length = x at hle ⊢
          generalize (Leb.put (Leb.zig m)).length = y at hle ⊢
          have hle' : (x : Int) ≤ (y : Int) := by omega
          go_wp2
          go_meet
          case rel => exact ⟨rfl, B8⟩
      case rest =>
        obtain ⟨rfl, C1⟩ := hcut
        go_upto_region 9 with fail
        go_cut [11] from 12 (fun v11 wx => v11 = .bool true ∧ Hid (Below w.heap.size w wx))
        case first =>
          by_cases h63 : (63 : Int) < (a : Int)
          · go_wp2
            go_meet
            case rel => exact ⟨rfl, C1⟩
          · have h63' : (a : Int) ≤ 63 := by omega
            go_wp2_with fail
            refine (HK.out.zig n _ hn1 hn2 (HK.out.on HI.out C1.out)).mono ?_
            rintro e w5 ⟨rfl, h⟩
            have B5 := Lib.hid (C1.out.trans (h.mono C1.out.size))
            clear h
            go_wp2_with fail
            refine (HK.out.len _ _ HZ3.out (HK.out.on HI.out B5.out)).mono ?_
            rintro e w6 ⟨rfl, h⟩
            have B6 := Lib.hid (B5.out.trans (h.mono B5.out.size))
            clear h
            rw [HZ7.out (by omega)]
            go_wp2
            go_meet
            case rel => exact ⟨rfl, B6⟩
        case rest =>
          obtain ⟨rfl, C2⟩ := hcut
          go_wp2_with fail
          refine (lebLive_ok HK.out _ (HK.out.on HI.out C2.out)).mono ?_
          rintro e w9 ⟨rfl, h⟩
          have B9 := Lib.hid (C2.out.trans (h.mono C2.out.size))
          clear h
          go_wp2
          go_ret
          exact ⟨rfl, B9.out⟩
end Go.Proofs.Ythbkmliggdpmoaa

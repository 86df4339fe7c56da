/- CrcBursts, walked. -/
import Derived.Test.YthndpccdeagkdaaDoorWLiveC
import Derived.Test.YthndpccdeagkdaaDoorCopy
namespace Go.Proofs.YthndpccdeagkdaaDoor
open Go.RowKit

/-- what the burst's loop keeps -/
def Burst (l : List UInt8) (f u b : Nat) (w : World) (k : Nat) (wr : World) : Prop :=
  ∃ xs : List UInt8, Own wr b xs ∧ xs.length = l.length ∧ Below w.heap.size w wr ∧ Crc.num xs = Crc.num l ^^^ 2 ^ f * (u % 2 ^ (min k (8 * l.length - f)))

theorem xor8 (x : UInt8) (j : Nat) (hj : j < 8) : bits .xor .u8 (x.toNat : Int) (2 ^ j % 256) = ((x ^^^ UInt8.ofNat (2 ^ j)).toNat : Int) ∧ (UInt8.ofNat (2 ^ j)).toNat = 2 ^ j := by
  have h1 : 2 ^ j < 256 := Nat.pow_lt_pow_right (a := 2) (n := 8) (by omega) hj
  have h2 : (UInt8.ofNat (2 ^ j)).toNat = 2 ^ j := by
    rw [UInt8.toNat_ofNat']; exact Nat.mod_eq_of_lt h1
  refine ⟨?_, h2⟩
  have h3 : ((2 : Int) ^ j % 256) = ((2 ^ j : Nat) : Int) := by
    have : ((2 ^ j : Nat) : Int) = (2 : Int) ^ j := by push_cast; rfl
    omega
  rw [h3, UInt8.toNat_xor, h2]
  exact u8_xor_nat x.toNat (2 ^ j) x.toNat_lt h1

theorem burst_turn {l : List UInt8} {f u b k : Nat} {w wr : World} (hbl : w.heap.size ≤ b) (h : Burst l f u b w k wr) (hin : f + k < 8 * l.length) (hbit : u / 2 ^ k % 2 = 1) :
    ∃ x : UInt8, wr.cell? ⟨b, (f + k) / 8, none⟩ = some (.int .u8 (x.toNat : Int)) ∧ wr.frozen? ⟨b, (f + k) / 8, none⟩ = false ∧
      Burst l f u b w (k + 1) (wr.setCell ⟨b, (f + k) / 8, none⟩ (.int .u8 (bits .xor .u8 (x.toNat : Int) (2 ^ ((f + k) % 8) % 256)))) := by
  obtain ⟨xs, hO, hxl, hBr, hN⟩ := h
  have hi : (f + k) / 8 < xs.length := by omega
  have hcell := hO.cells ((f + k) / 8) hi
  rw [Nat.zero_add] at hcell
  obtain ⟨e1, e2⟩ := xor8 xs[(f + k) / 8] ((f + k) % 8) (Nat.mod_lt _ (by omega))
  refine ⟨xs[(f + k) / 8], hcell, hO.thawed _, ?_⟩
  rw [e1]
  refine ⟨_, hO.set _ _ hi, by rw [List.length_set]; exact hxl, hBr.setCell hbl _, ?_⟩
  rw [Crc.num_turn xs ((f + k) / 8) hi _ ((f + k) % 8) e2, hN, Crc.burst_step (Crc.num l) f u k (8 * l.length - f) (by omega), if_pos hbit]
  rw [show 8 * ((f + k) / 8) + (f + k) % 8 = f + k by omega]
theorem burst_keep {l : List UInt8} {f u b k : Nat} {w wr : World} (h : Burst l f u b w k wr) (hin : f + k < 8 * l.length) (hbit : u / 2 ^ k % 2 ≠ 1) : Burst l f u b w (k + 1) wr := by
  obtain ⟨xs, hO, hxl, hBr, hN⟩ := h
  refine ⟨xs, hO, hxl, hBr, ?_⟩
  rw [hN, Crc.burst_step (Crc.num l) f u k (8 * l.length - f) (by omega), if_neg hbit, Nat.xor_zero]
theorem burst_out {l : List UInt8} {f u b k : Nat} {w wr : World} (h : Burst l f u b w k wr) (hin : 8 * l.length ≤ f + k) : Burst l f u b w (k + 1) wr := by
  obtain ⟨xs, hO, hxl, hBr, hN⟩ := h
  refine ⟨xs, hO, hxl, hBr, ?_⟩
  rw [hN, Crc.burst_past (Crc.num l) f u k (8 * l.length - f) (by omega)]

/-- the whole burst: the lists are one just if their checks are -/
theorem burst_told {l : List UInt8} {f u b : Nat} {w wr : World} (hf : f < 8 * l.length) (hu : u < 4294967296) (h : Burst l f u b w 32 wr) :
    ∃ xs : List UInt8, Own wr b xs ∧ xs.length = l.length ∧ Below w.heap.size w wr ∧ ((xs == l) = (Crc.sum xs == Crc.sum l)) := by
  obtain ⟨xs, hO, hxl, hBr, hN⟩ := h
  refine ⟨xs, hO, hxl, hBr, ?_⟩
  have he : u % 2 ^ (min 32 (8 * l.length - f)) < 4294967296 := Nat.lt_of_le_of_lt (Nat.mod_le _ _) hu
  have h1 := Crc.sum_burst l xs hxl f _ (by omega) he hN
  rw [Bool.eq_iff_iff, beq_iff_eq, beq_iff_eq, h1]
  constructor
  · intro e
    rw [e] at hN
    have h2 : 2 ^ f * (u % 2 ^ (min 32 (8 * l.length - f))) = 0 := by
      have h3 : Crc.num l ^^^ Crc.num l = Crc.num l ^^^ (Crc.num l ^^^ 2 ^ f * (u % 2 ^ (min 32 (8 * l.length - f)))) := by rw [← hN]
      rw [Nat.xor_self, ← Nat.xor_assoc, Nat.xor_self, Nat.zero_xor] at h3
      exact h3.symm
    rcases Nat.mul_eq_zero.1 h2 with h4 | h4
    · exact absurd h4 (Nat.ne_of_gt (Nat.two_pow_pos f))
    · exact h4
  · intro e
    rw [e, Nat.mul_zero, Nat.xor_zero] at hN
    exact Crc.num_inj _ _ hxl hN

theorem bit_of (u k : Nat) : (((u : Int) / 2 ^ k).tmod 2 == 1) = decide (u / 2 ^ k % 2 = 1) := by
  have e : (u : Int) / 2 ^ k = ((u / 2 ^ k : Nat) : Int) := by push_cast; rfl
  rw [e, Int.tmod_eq_emod_of_nonneg (Int.natCast_nonneg _), Bool.eq_iff_iff, beq_iff_eq, decide_eq_true_iff]
  generalize u / 2 ^ k = z
  omega

set_option maxHeartbeats 400000 in
theorem bursts_pos (p : Option Addr) (c : Nat) (l : List UInt8) (hl : l.length ≤ 140737488351232) (hpos : 0 < l.length) (a : Int) (f : Nat) (hf : a.tmod (8 * l.length) = (f : Int)) (hfl : f < 8 * l.length) (u : Nat) (hu : u < 4294967296) (w : World) (ht : Hv w) (h : At w p l) :
    Calls Tryd.prog 8 #[.slice p l.length c, .int .i64 a, .int .u32 u] w fun e w' => e = .returned (.bool true) ∧ Below w.heap.size w w' := by
  obtain ⟨b, d, W, hrun, hW, hbl, hd, hB⟩ := copy_own p c l w hl h
  have HT := Lib.hid ht
  have HA := Lib.hid h
  have HR := Lib.hid hrun
  have HI : Hid (Burst l f u b w 0 W) := ⟨l, hW, rfl, hB, by simp [Nat.mod_one]⟩
  clear ht h hW hB hrun
  go_enter Tryd.func8, Tryd.ntmps8
  go_wp2_with (first | (at_builtin; refine wpList_append_run _ rfl _ _ _ _ rfl _ _ rfl rfl _ _ HR.out ?_))
  go_loopw [10] (fun v10 wr => ∃ (k : Nat), k ≤ 32 ∧ v10 = .int .i64 k ∧ Hid (Burst l f u b w k wr)) (fun v10 _ => 32 - (intOf v10).toNat)
  case atStart => exact ⟨0, by omega, rfl, HI⟩
  case round =>
    obtain ⟨k, hk, rfl, HK⟩ := hrel
    by_cases hk32 : k < 32
    · by_cases hin : f + k < 8 * l.length
      · by_cases hbit : u / 2 ^ k % 2 = 1
        · obtain ⟨x, hcell, hthaw, hnext⟩ := burst_turn hbl HK.out hin hbit
          have HN := Lib.hid hnext
          have hb1 : (((u : Int) / 2 ^ k).tmod 2 == 1) = true := by rw [bit_of, decide_eq_true hbit]
          clear hnext hbit HK
          go_wp2
          go_roundw
          case rel => exact ⟨k + 1, by omega, by go_num, HN⟩
          case measure => simp [intOf]; omega
        · have HN := Lib.hid (burst_keep HK.out hin hbit)
          have hb1 : (((u : Int) / 2 ^ k).tmod 2 == 1) = false := by rw [bit_of, decide_eq_false hbit]
          clear hbit HK
          go_wp2
          go_roundw
          case rel => exact ⟨k + 1, by omega, by go_num, HN⟩
          case measure => simp [intOf]; omega
      · have HN := Lib.hid (burst_out HK.out (by omega))
        have hb1 : decide ((f : Int) + (k : Int) < 8 * (l.length : Int)) = false := decide_eq_false (by omega)
        clear HK
        go_wp2
        go_roundw
        case rel => exact ⟨k + 1, by omega, by go_num, HN⟩
        case measure => simp [intOf]; omega
    · have hk2 : k = 32 := by omega
      subst hk2
      obtain ⟨xs, hO, hxl, hBr, htold⟩ := burst_told hfl hu HK.out
      have HO := Lib.hid hO.at
      have HBr := Lib.hid hBr
      have HTr := Lib.hid (HT.out.on hBr)
      have hb2 : (((Crc.sum xs : Nat) : Int) == ((Crc.sum l : Nat) : Int)) = (xs == l) := by
        rw [htold, Bool.eq_iff_iff, beq_iff_eq, beq_iff_eq]
        exact Int.ofNat_inj
      have HX := Lib.hid hb2
      have hxl' : xs.length ≤ 140737488351232 := by omega
      clear HK hO hBr htold hk hk32 hb2
      have HL := Lib.hid (live_any wr HTr.out)
      have HAr := Lib.hid (HA.out.on HBr.out)
      clear HTr
      go_wp2_with fail
      refine HL.out.mono ?_
      rintro e w1 ⟨rfl, hb⟩
      have HB1 := Lib.hid hb
      clear hb HL
      have hS := same_any (some ⟨b, 0, none⟩) p d c xs l hxl' w1 (HO.out.on HB1.out) (HAr.out.on HB1.out)
      rw [hxl] at hS
      have HS := Lib.hid hS
      clear hS
      go_wp2_with fail
      refine HS.out.mono ?_
      rintro e w2 ⟨rfl, n, hw⟩
      have HB2 : Hid (Below wr.heap.size wr w2) := by rw [hw]; exact below_drewN HB1.out n
      clear hw
      have hS1 := sum_any (some ⟨b, 0, none⟩) d xs hxl' w2 (HT.out.on (HBr.out.trans (HB2.out.mono HBr.out.size))) (HO.out.on HB2.out)
      rw [hxl] at hS1
      have HS1 := Lib.hid hS1
      have HS2 := Lib.hid (sum_any p c l hl w2 (HT.out.on (HBr.out.trans (HB2.out.mono HBr.out.size))) (HAr.out.on HB2.out))
      clear hS1 HS
      go_wp2_with fail
      refine HS1.out.mono ?_
      rintro e w3 ⟨rfl, hw⟩
      rw [hw]
      clear hw w3
      go_wp2_with fail
      refine HS2.out.mono ?_
      rintro e w3 ⟨rfl, hw⟩
      rw [hw]
      clear hw w3
      have hb2 := HX.out
      clear HX HS1 HS2
      generalize (xs == l) = t at hb2 ⊢
      generalize Crc.sum xs = sx at hb2 ⊢
      generalize Crc.sum l = sl at hb2 ⊢
      go_wp2
      go_ret
      exact ⟨rfl, HBr.out.trans (HB2.out.mono HBr.out.size)⟩

set_option maxHeartbeats 400000 in
theorem bursts_neg (p : Option Addr) (c : Nat) (l : List UInt8) (hl : l.length ≤ 140737488351232) (hpos : 0 < l.length) (a : Int) (f : Nat) (hf : a.tmod (8 * l.length) = (f : Int) - 8 * l.length) (hfl : f < 8 * l.length) (u : Nat) (hu : u < 4294967296) (w : World) (ht : Hv w) (h : At w p l) :
    Calls Tryd.prog 8 #[.slice p l.length c, .int .i64 a, .int .u32 u] w fun e w' => e = .returned (.bool true) ∧ Below w.heap.size w w' := by
  obtain ⟨b, d, W, hrun, hW, hbl, hd, hB⟩ := copy_own p c l w hl h
  have HT := Lib.hid ht
  have HA := Lib.hid h
  have HR := Lib.hid hrun
  have HI : Hid (Burst l f u b w 0 W) := ⟨l, hW, rfl, hB, by simp [Nat.mod_one]⟩
  clear ht h hW hB hrun
  go_enter Tryd.func8, Tryd.ntmps8
  go_wp2_with (first | (at_builtin; refine wpList_append_run _ rfl _ _ _ _ rfl _ _ rfl rfl _ _ HR.out ?_))
  go_loopw [10] (fun v10 wr => ∃ (k : Nat), k ≤ 32 ∧ v10 = .int .i64 k ∧ Hid (Burst l f u b w k wr)) (fun v10 _ => 32 - (intOf v10).toNat)
  case atStart => exact ⟨0, by omega, rfl, HI⟩
  case round =>
    obtain ⟨k, hk, rfl, HK⟩ := hrel
    by_cases hk32 : k < 32
    · by_cases hin : f + k < 8 * l.length
      · by_cases hbit : u / 2 ^ k % 2 = 1
        · obtain ⟨x, hcell, hthaw, hnext⟩ := burst_turn hbl HK.out hin hbit
          have HN := Lib.hid hnext
          have hb1 : (((u : Int) / 2 ^ k).tmod 2 == 1) = true := by rw [bit_of, decide_eq_true hbit]
          clear hnext hbit HK
          go_wp2
          go_roundw
          case rel => exact ⟨k + 1, by omega, by go_num, HN⟩
          case measure => simp [intOf]; omega
        · have HN := Lib.hid (burst_keep HK.out hin hbit)
          have hb1 : (((u : Int) / 2 ^ k).tmod 2 == 1) = false := by rw [bit_of, decide_eq_false hbit]
          clear hbit HK
          go_wp2
          go_roundw
          case rel => exact ⟨k + 1, by omega, by go_num, HN⟩
          case measure => simp [intOf]; omega
      · have HN := Lib.hid (burst_out HK.out (by omega))
        have hb1 : decide ((f : Int) + (k : Int) < 8 * (l.length : Int)) = false := decide_eq_false (by omega)
        clear HK
        go_wp2
        go_roundw
        case rel => exact ⟨k + 1, by omega, by go_num, HN⟩
        case measure => simp [intOf]; omega
    · have hk2 : k = 32 := by omega
      subst hk2
      obtain ⟨xs, hO, hxl, hBr, htold⟩ := burst_told hfl hu HK.out
      have HO := Lib.hid hO.at
      have HBr := Lib.hid hBr
      have HTr := Lib.hid (HT.out.on hBr)
      have hb2 : (((Crc.sum xs : Nat) : Int) == ((Crc.sum l : Nat) : Int)) = (xs == l) := by
        rw [htold, Bool.eq_iff_iff, beq_iff_eq, beq_iff_eq]
        exact Int.ofNat_inj
      have HX := Lib.hid hb2
      have hxl' : xs.length ≤ 140737488351232 := by omega
      clear HK hO hBr htold hk hk32 hb2
      have HL := Lib.hid (live_any wr HTr.out)
      have HAr := Lib.hid (HA.out.on HBr.out)
      clear HTr
      go_wp2_with fail
      refine HL.out.mono ?_
      rintro e w1 ⟨rfl, hb⟩
      have HB1 := Lib.hid hb
      clear hb HL
      have hS := same_any (some ⟨b, 0, none⟩) p d c xs l hxl' w1 (HO.out.on HB1.out) (HAr.out.on HB1.out)
      rw [hxl] at hS
      have HS := Lib.hid hS
      clear hS
      go_wp2_with fail
      refine HS.out.mono ?_
      rintro e w2 ⟨rfl, n, hw⟩
      have HB2 : Hid (Below wr.heap.size wr w2) := by rw [hw]; exact below_drewN HB1.out n
      clear hw
      have hS1 := sum_any (some ⟨b, 0, none⟩) d xs hxl' w2 (HT.out.on (HBr.out.trans (HB2.out.mono HBr.out.size))) (HO.out.on HB2.out)
      rw [hxl] at hS1
      have HS1 := Lib.hid hS1
      have HS2 := Lib.hid (sum_any p c l hl w2 (HT.out.on (HBr.out.trans (HB2.out.mono HBr.out.size))) (HAr.out.on HB2.out))
      clear hS1 HS
      go_wp2_with fail
      refine HS1.out.mono ?_
      rintro e w3 ⟨rfl, hw⟩
      rw [hw]
      clear hw w3
      go_wp2_with fail
      refine HS2.out.mono ?_
      rintro e w3 ⟨rfl, hw⟩
      rw [hw]
      clear hw w3
      have hb2 := HX.out
      clear HX HS1 HS2
      generalize (xs == l) = t at hb2 ⊢
      generalize Crc.sum xs = sx at hb2 ⊢
      generalize Crc.sum l = sl at hb2 ⊢
      go_wp2
      go_ret
      exact ⟨rfl, HBr.out.trans (HB2.out.mono HBr.out.size)⟩

theorem live_only (p : Option Addr) (c : Nat) (a : Int) (u : Nat) (w : World) (ht : Hv w) :
    Calls Tryd.prog 8 #[.slice p 0 c, .int .i64 a, .int .u32 u] w fun e w' => e = .returned (.bool true) ∧ Below w.heap.size w w' := by
  have HL := Lib.hid (live_any w ht)
  clear ht
  go_enter Tryd.func8, Tryd.ntmps8
  go_wp2_with fail
  refine HL.out.mono ?_
  rintro e w1 ⟨rfl, hb⟩
  have HB1 := Lib.hid hb
  clear hb HL
  go_wp2
  go_ret
  exact ⟨rfl, HB1.out⟩

theorem crcBursts_any (p : Option Addr) (c : Nat) (l : List UInt8) (hl : l.length ≤ 140737488351232) (a : Int) (u : Nat) (hu : u < 4294967296) (w : World) (ht : Hv w) (h : At w p l) :
    Calls Tryd.prog 8 #[.slice p l.length c, .int .i64 a, .int .u32 u] w fun e w' => e = .returned (.bool true) ∧ Below w.heap.size w w' := by
  by_cases hpos : 0 < l.length
  · have h1 := Int.tmod_lt_of_pos a (show (0 : Int) < 8 * l.length by omega)
    have h2 := Int.lt_tmod_of_pos a (show (0 : Int) < 8 * l.length by omega)
    by_cases hneg : a.tmod (8 * l.length) < 0
    · exact bursts_neg p c l hl hpos a (a.tmod (8 * l.length) + 8 * l.length).toNat (by omega) (by omega) u hu w ht h
    · exact bursts_pos p c l hl hpos a (a.tmod (8 * l.length)).toNat (by omega) (by omega) u hu w ht h
  · have h0 : l = [] := by
      cases l with
      | nil => rfl
      | cons _ _ => simp at hpos
    subst h0
    exact live_only p c a u w ht

theorem crcBursts_u32 (p : Option Addr) (c : Nat) (l : List UInt8) (hl : l.length ≤ 140737488351232) (a u : Int) (hu : (Lit.int .u32 u).wf = true) (w : World) (ht : Hv w) (h : At w p l) :
    Calls Tryd.prog 8 #[.slice p l.length c, .int .i64 a, .int .u32 u] w fun e w' => e = .returned (.bool true) ∧ Below w.heap.size w w' := by
  have e1 : IntKind.u32.min = 0 := rfl
  have e2 : IntKind.u32.max = 4294967295 := rfl
  simp only [Lit.wf, e1, e2, Bool.and_eq_true, decide_eq_true_eq] at hu
  obtain ⟨n, rfl⟩ : ∃ n : Nat, u = (n : Int) := ⟨u.toNat, by omega⟩
  exact crcBursts_any p c l hl a n (by omega) w ht h
end Go.Proofs.YthndpccdeagkdaaDoor

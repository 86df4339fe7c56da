/- WZig, WLebK, WPutK: put together. -/
import Derived.Test.YtbedlaaedefclaaM14
import Derived.Lib.Zigzag
import Derived.Test.YtbedlaaedefclaaM15
import Derived.Lib.VarintBits

/- The walks of package leb's Zig and Zag. -/
namespace Go.Proofs.Ytbedlaaedefclaa
open Go.RowKit

theorem bits_xor_comm (k : IntKind) (x y : Int) : bits .xor k x y = bits .xor k y x := by
  unfold bits
  simp only [BitVec.xor_comm]
theorem xor64_zero (x : Nat) (h : x < 18446744073709551616) : bits .xor .u64 (x : Int) 0 = x := by
  have := bits_xor_u64_nat x 0 (by omega) (by decide)
  simpa using this
theorem xori64_zero (x : Nat) (h : x < 9223372036854775808) : bits .xor .i64 (x : Int) 0 = x := by
  show IntKind.i64.wrap ((BitVec.ofInt 64 (x : Int) ^^^ BitVec.ofInt 64 0).toNat : Int) = _
  have h2 : (BitVec.ofInt 64 (x : Int)).toNat = x := by
    rw [BitVec.ofInt_natCast, BitVec.toNat_ofNat]; exact Nat.mod_eq_of_lt (by omega)
  have h3 : (BitVec.ofInt 64 0).toNat = 0 := by decide
  rw [BitVec.toNat_xor, h2, h3, Nat.xor_zero, IntKind.wrap_i64]
  omega

theorem zig_bits (n : Int) (h1 : -9223372036854775808 ≤ n) (h2 : n ≤ 9223372036854775807) :
    bits .xor .u64 (IntKind.u64.wrap (IntKind.u64.wrap n * 2)) (IntKind.u64.wrap (n / 9223372036854775808)) = ((Leb.zig n : Nat) : Int) := by
  by_cases h0 : 0 ≤ n
  · have e1 : IntKind.u64.wrap (IntKind.u64.wrap n * 2) = (((2 * n).toNat : Nat) : Int) := by
      rw [IntKind.wrap_u64, IntKind.wrap_u64]; omega
    have e2 : IntKind.u64.wrap (n / 9223372036854775808) = 0 := by
      rw [IntKind.wrap_u64]; omega
    rw [e1, e2, xor64_zero _ (by omega)]
    unfold Leb.zig
    rw [if_pos h0]; omega
  · have e2 : IntKind.u64.wrap (n / 9223372036854775808) = IntKind.u64.max := by
      have : IntKind.u64.max = 18446744073709551615 := by decide
      rw [IntKind.wrap_u64, this]; omega
    rw [e2, bits_xor_comm, Lib.zigzag_neg h1 (by omega)]
    unfold Leb.zig Lib.zigzag
    rw [if_neg h0, if_neg h0]; omega

theorem zig_any (n : Int) (h1 : -9223372036854775808 ≤ n) (h2 : n ≤ 9223372036854775807) (w : World) :
    Calls Try.prog 107 #[.int .i64 n] w fun e w' => e = .returned (.int .u64 (Leb.zig n : Nat)) ∧ w' = w := by
  have H := Lib.hid (zig_bits n h1 h2)
  go_enter Try.func107, Try.ntmps107
  go_wp2
  go_ret
  exact ⟨by rw [← H.out]; rfl, rfl⟩

theorem zag_bits (u : Nat) (h : u < 18446744073709551616) :
    bits .xor .i64 ((u : Int) / 2) (wrap64 (-wrap64 (bits .and .u64 (u : Int) 1))) = Leb.zag u := by
  have e1 : ((u : Int) / 2) = ((u / 2 : Nat) : Int) := by omega
  rw [Lib.u64_and1 _ (by omega) (by omega), e1]
  by_cases h0 : u % 2 = 0
  · have e2 : wrap64 (-wrap64 ((u : Int) % 2)) = 0 := by
      have : (u : Int) % 2 = 0 := by omega
      rw [this]; simp [wrap64]
    rw [e2, xori64_zero _ (by omega)]
    unfold Leb.zag
    rw [if_pos h0]
  · have e2 : wrap64 (-wrap64 ((u : Int) % 2)) = -1 := by
      have : (u : Int) % 2 = 1 := by omega
      rw [this]; simp [wrap64]
    rw [e2, bits_xor_comm, Lib.i64_not _ (by omega)]
    unfold Leb.zag
    rw [if_neg h0]

end Go.Proofs.Ytbedlaaedefclaa

/- The walks of package leb's Len, Put, judge. -/
namespace Go.Proofs.Ytbedlaaedefclaa
open Go.RowKit

theorem bitLen_pos (x : Nat) (h : 0 < x) (hx : x < 18446744073709551616) : 1 ≤ Lib.bitLen x := by
  rw [Lib.bitLen_half x (by omega) hx]; omega
theorem bitLen_small (x : Nat) (h : x < 128) : Lib.bitLen x ≤ 7 := Lib.bitLenAux_le 64 x 7 h
theorem bitLen_odd (x : Nat) (h : 0 < x) (hx : x < 18446744073709551616) : Lib.bitLen (x / 2 * 2 + 1) = Lib.bitLen x := by
  rw [Lib.bitLen_half x (by omega) hx, Lib.bitLen_half (x / 2 * 2 + 1) (by omega) (by omega)]
  congr 2
  omega
/-- how many bytes: of seven bits each, and one bit at least -/
theorem putF_bits (f : Nat) : ∀ n : Nat, n < 2 * 128 ^ f → n < 18446744073709551616 → (Leb.putF (f + 1) n).length = (Lib.bitLen (n / 2 * 2 + 1) + 6) / 7 := by
  induction f with
  | zero =>
    intro n h _
    have h2 : n < 2 := by simpa using h
    have e : n / 2 * 2 + 1 = 1 := by omega
    rw [e, Leb.putF, if_pos (by omega)]
    rfl
  | succ f ih =>
    intro n h h64
    by_cases hn : n < 128
    · have h1 := bitLen_small (n / 2 * 2 + 1) (by omega)
      have h2 := bitLen_pos (n / 2 * 2 + 1) (by omega) (by omega)
      rw [Leb.putF, if_pos hn, List.length_singleton]
      omega
    · have h1 : n / 128 < 2 * 128 ^ f := by
        rw [Nat.pow_succ] at h
        rw [Nat.div_lt_iff_lt_mul (by omega)]
        omega
      have e1 := Lib.bitLen_shift 7 (n / 2 * 2 + 1) (by omega) (by omega)
      have e2 : (n / 2 * 2 + 1) / 2 ^ 7 = n / 128 := by omega
      rw [e2] at e1
      rw [Leb.putF, if_neg hn, List.length_cons, ih (n / 128) h1 (by omega), bitLen_odd (n / 128) (by omega) (by omega), e1]
      omega
theorem put_bits (n : Nat) (hn : n < 18446744073709551616) : (Leb.put n).length = (Lib.bitLen (n / 2 * 2 + 1) + 6) / 7 := by
  have e : 2 * 128 ^ 9 = 18446744073709551616 := by decide
  exact putF_bits 9 n (by rw [e]; exact hn) hn

theorem or1_u64 (n : Nat) (h : n < 18446744073709551616) : bits .or .u64 (n : Int) 1 = ((n / 2 * 2 + 1 : Nat) : Int) := by
  have h2 := (bits_nat .u64 64 (by decide) wraps_u64 n 1 (by omega) (by decide)).2
  have e : ((1 : Nat) : Int) = 1 := rfl
  rw [e] at h2
  rw [h2]
  congr 1
  apply Nat.eq_of_testBit_eq
  intro i
  rw [Nat.testBit_or]
  cases i with
  | zero => simp
  | succ i =>
    rw [Nat.testBit_succ, Nat.testBit_succ, Nat.testBit_succ]
    have e1 : (n / 2 * 2 + 1) / 2 = n / 2 := by omega
    rw [e1]
    simp

theorem len_any (n : Nat) (hn : n < 18446744073709551616) (w : World) :
    Calls Try.prog 93 #[.int .u64 n] w fun e w' => e = .returned (.int .i64 ((Leb.put n).length : Nat)) ∧ w' = w := by
  have H1 := Lib.hid (len64_any (n / 2 * 2 + 1) (by omega) w)
  have H2 := Lib.hid (put_bits n hn)
  have H3 := Lib.hid (or1_u64 n hn)
  have hle : Lib.bitLen (n / 2 * 2 + 1) ≤ 64 := Lib.bitLenAux_le 64 _ 64 (by omega)
  generalize Lib.bitLen (n / 2 * 2 + 1) = k at H1 H2 hle
  go_enter Try.func93, Try.ntmps93
  go_wp2_with fail
  rw [H3.out]
  refine H1.out.mono ?_
  rintro e w' ⟨rfl, hw⟩
  rw [hw]
  clear hw w'
  go_wp2
  go_ret
  exact ⟨by rw [H2.out]; go_num, rfl⟩

/-- what is wrong with so many bytes of which the last one is c -/
def Leb.judge (k c : Nat) : Nat := if k < 10 ∧ 128 ≤ c then 30 else if k = 10 ∧ 1 < c then 5 else if 1 < k ∧ c = 0 then 5 else 0

end Go.Proofs.Ytbedlaaedefclaa

/- The walk of package leb's Put. -/
namespace Go.Proofs.Ytbedlaaedefclaa
open Go.RowKit

/-- make([]byte, 0, c): a slice of the call's own, of no bytes yet -/
theorem make_none (w : World) (c : Nat) (hc : c ≤ 1000000) : ∃ w', (Instr.makeSlice 88 (.int .i64 0) (.int .i64 (c : Int))).run Try.prog w = .ok (.slice (some ⟨w.heap.size, 0, none⟩) 0 c) w' ∧ Mine w' w.heap.size w.heap.size c [] ∧ Below w.heap.size w w' := by
  obtain ⟨i, hi, hz, hsz, hby⟩ := info_parts info8
  obtain ⟨w', h1, h2, h3⟩ := run_make_own (P := Try.prog) w w.heap.size 88 5 i (.int .u8 0) 1 Try.underlying88 hi hz hsz .i64 .i64 c (by rw [hby]; omega) (by unfold maxLen; omega) (Nat.le_refl _)
  exact ⟨w', h1, h2, (Below.refl _ _).grown h3 (Nat.le_refl _) (fun k hk => by cases hk)⟩

theorem or128_byte (m : Nat) : bits .or .u8 ((m : Int) % 256) 128 = ((m % 128 + 128 : Nat) : Int) := by
  rw [Lib.u8_or128_any _ (by omega) (by omega)]
  omega

set_option maxRecDepth 100000 in
set_option maxHeartbeats 1000000 in
theorem put_any (n : Nat) (hn : n < 18446744073709551616) (w : World) :
    Calls Try.prog 77 #[.int .u64 n] w fun e w' => ∃ g cap, e = .returned (.slice (some ⟨g, 0, none⟩) (Leb.put n).length cap) ∧ Mine w' w.heap.size g cap (Leb.put n) ∧ Below w.heap.size w w' := by
  have HP := Lib.hid (Leb.putting_start hn)
  have HL := Lib.hid (len_any n hn w)
  have hl10 := Leb.put_length_le n
  obtain ⟨k, hk⟩ : ∃ k, k = (Leb.put n).length := ⟨_, rfl⟩
  rw [← hk] at HL hl10
  clear hk
  obtain ⟨w1, hmk, hm0, hb0⟩ := make_none w k (by omega)
  have HM := Lib.hid hm0
  have HB := Lib.hid hb0
  clear hm0 hb0
  go_enter Try.func77, Try.ntmps77
  go_wp2_with fail
  refine HL.out.mono ?_
  rintro e w' ⟨rfl, hw⟩
  rw [hw]
  clear hw w' HL
  go_wp2
  go_loopw [0, 3] (fun v0 v3 wr => ∃ (m : Nat) (xs : List UInt8), v0 = .int .u64 m ∧ m < 18446744073709551616 ∧ xs.length ≤ 9 ∧ Hid (Leb.Putting n xs m ∧ Has wr w.heap.size v3 xs ∧ Below w.heap.size w wr)) (fun v0 _ _ => (intOf v0).toNat)
  case atStart => exact ⟨n, [], rfl, hn, by simp, HP.out, HM.out.has, HB.out⟩
  case round =>
    obtain ⟨m, xs, rfl, hm, hx, HK⟩ := hrel
    have hB := HK.out.2.2.size
    have HO := Lib.hid HK.out.2.1
    by_cases hgt : 127 < m
    · have hcn := Leb.byte_high m
      have HN := Lib.hid (Leb.putting_next HK.out.1 hgt)
      generalize UInt8.ofNat (m % 128 + 128) = c at hcn HN
      have hor : bits .or .u8 ((m : Int) % 256) 128 = (c.toNat : Int) := by rw [or128_byte, hcn]
      go_wp2_with (at_builtin; refine wp_push HO.out c (by omega) hB (by first | exact hor | omega | (rw [hcn]; omega)) rfl rfl rfl rfl rfl ?_; intro g cap W hmine hb)
      go_roundw
      case rel => exact ⟨m / 128, xs ++ [c], by go_num, by omega, by have := HN.out.1; exact this, HN.out, by have := hmine.has; simpa using this, HK.out.2.2.trans hb⟩
      case measure => simp [intOf]; omega
    · have hcn := Leb.byte_low m (by omega)
      have HN := Lib.hid (Leb.putting_last HK.out.1 (by omega))
      generalize UInt8.ofNat m = c at hcn HN
      go_wp2_with (at_builtin; refine wp_push HO.out c (by omega) hB (by omega) rfl rfl rfl rfl rfl ?_; intro g cap W hmine hb)
      go_ret
      refine ⟨g, cap, ?_, ?_, HK.out.2.2.trans hb⟩
      · rw [← HN.out]; simp
      · rw [← HN.out]; exact hmine
end Go.Proofs.Ytbedlaaedefclaa

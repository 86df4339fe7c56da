/- The walks of package leb's Zig and Zag. -/
import Derived.Test.YtoojflhafmnggaaLebC
import Derived.Lib.Zigzag
namespace Go.Proofs.Ytoojflhafmnggaa
open Go.RowKit

theorem bits_xor_comm (k : IntKind) (x y : Int) : bits .xor k x y = bits .xor k y x := by
  unfold bits
  simp only [BitVec.xor_comm]
theorem xor64_zero (x : Nat) (h : x < 18446744073709551616) : bits .xor .u64 (x : Int) 0 = x := by
  have := bits_xor_u64_nat x 0 (by omega) (by decide)
  simpa using this
theorem xori64_zero (x : Nat) (h : x < 9223372036854775808) : bits .xor .i64 (x : Int) 0 = x := by
  show IntKind.i64.wrap ((BitVec.ofInt 64 (x : Int) ^^^ BitVec.ofInt 64 0).toNat : Int) = _
  have h2 : (BitVec.ofInt 64 (x : Int)).toNat = x := by
    rw [BitVec.ofInt_natCast, BitVec.toNat_ofNat]; exact Nat.mod_eq_of_lt (by omega)
  have h3 : (BitVec.ofInt 64 0).toNat = 0 := by decide
  rw [BitVec.toNat_xor, h2, h3, Nat.xor_zero, IntKind.wrap_i64]
  omega

theorem zig_bits (n : Int) (h1 : -9223372036854775808 ≤ n) (h2 : n ≤ 9223372036854775807) :
    bits .xor .u64 (IntKind.u64.wrap (IntKind.u64.wrap n * 2)) (IntKind.u64.wrap (n / 9223372036854775808)) = ((Leb.zig n : Nat) : Int) := by
  by_cases h0 : 0 ≤ n
  · have e1 : IntKind.u64.wrap (IntKind.u64.wrap n * 2) = (((2 * n).toNat : Nat) : Int) := by
      rw [IntKind.wrap_u64, IntKind.wrap_u64]; omega
    have e2 : IntKind.u64.wrap (n / 9223372036854775808) = 0 := by
      rw [IntKind.wrap_u64]; omega
    rw [e1, e2, xor64_zero _ (by omega)]
    unfold Leb.zig
    rw [if_pos h0]; omega
  · have e2 : IntKind.u64.wrap (n / 9223372036854775808) = IntKind.u64.max := by
      have : IntKind.u64.max = 18446744073709551615 := by decide
      rw [IntKind.wrap_u64, this]; omega
    rw [e2, bits_xor_comm, Lib.zigzag_neg h1 (by omega)]
    unfold Leb.zig Lib.zigzag
    rw [if_neg h0, if_neg h0]; omega

theorem zag_bits (u : Nat) (h : u < 18446744073709551616) :
    bits .xor .i64 ((u : Int) / 2) (wrap64 (-wrap64 (bits .and .u64 (u : Int) 1))) = Leb.zag u := by
  have e1 : ((u : Int) / 2) = ((u / 2 : Nat) : Int) := by omega
  rw [Lib.u64_and1 _ (by omega) (by omega), e1]
  by_cases h0 : u % 2 = 0
  · have e2 : wrap64 (-wrap64 ((u : Int) % 2)) = 0 := by
      have : (u : Int) % 2 = 0 := by omega
      rw [this]; simp [wrap64]
    rw [e2, xori64_zero _ (by omega)]
    unfold Leb.zag
    rw [if_pos h0]
  · have e2 : wrap64 (-wrap64 ((u : Int) % 2)) = -1 := by
      have : (u : Int) % 2 = 1 := by omega
      rw [this]; simp [wrap64]
    rw [e2, bits_xor_comm, Lib.i64_not _ (by omega)]
    unfold Leb.zag
    rw [if_neg h0]

end Go.Proofs.Ytoojflhafmnggaa

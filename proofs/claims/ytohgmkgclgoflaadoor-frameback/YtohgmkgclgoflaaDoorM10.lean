/- WZig, WLebK, WPutK, WGetK: put together. -/
import Derived.Test.YtohgmkgclgoflaaDoorM08
import Derived.Lib.Zigzag
import Derived.Test.YtohgmkgclgoflaaDoorM09
import Derived.Lib.VarintBits

/- The walks of package leb's Zig and Zag. -/
namespace Go.Proofs.YtohgmkgclgoflaaDoor
open Go.RowKit

theorem bits_xor_comm (k : IntKind) (x y : Int) : bits .xor k x y = bits .xor k y x := by
  unfold bits
  simp only [BitVec.xor_comm]
theorem xor64_zero (x : Nat) (h : x < 18446744073709551616) : bits .xor .u64 (x : Int) 0 = x := by
  have := bits_xor_u64_nat x 0 (by omega) (by decide)
  simpa using this
theorem xori64_zero (x : Nat) (h : x < 9223372036854775808) : bits .xor .i64 (x : Int) 0 = x := by
  show IntKind.i64.wrap ((BitVec.ofInt 64 (x : Int) ^^^ BitVec.ofInt 64 0).toNat : Int) = _
  have h2 : (BitVec.ofInt 64 (x : Int)).toNat = x := by
    rw [BitVec.ofInt_natCast, BitVec.toNat_ofNat]; exact Nat.mod_eq_of_lt (by omega)
  have h3 : (BitVec.ofInt 64 0).toNat = 0 := by decide
  rw [BitVec.toNat_xor, h2, h3, Nat.xor_zero, IntKind.wrap_i64]
  omega

theorem zig_bits (n : Int) (h1 : -9223372036854775808 ≤ n) (h2 : n ≤ 9223372036854775807) :
    bits .xor .u64 (IntKind.u64.wrap (IntKind.u64.wrap n * 2)) (IntKind.u64.wrap (n / 9223372036854775808)) = ((Leb.zig n : Nat) : Int) := by
  by_cases h0 : 0 ≤ n
  · have e1 : IntKind.u64.wrap (IntKind.u64.wrap n * 2) = (((2 * n).toNat : Nat) : Int) := by
      rw [IntKind.wrap_u64, IntKind.wrap_u64]; omega
    have e2 : IntKind.u64.wrap (n / 9223372036854775808) = 0 := by
      rw [IntKind.wrap_u64]; omega
    rw [e1, e2, xor64_zero _ (by omega)]
    unfold Leb.zig
    rw [if_pos h0]; omega
  · have e2 : IntKind.u64.wrap (n / 9223372036854775808) = IntKind.u64.max := by
      have : IntKind.u64.max = 18446744073709551615 := by decide
      rw [IntKind.wrap_u64, this]; omega
    rw [e2, bits_xor_comm, Lib.zigzag_neg h1 (by omega)]
    unfold Leb.zig Lib.zigzag
    rw [if_neg h0, if_neg h0]; omega

theorem zig_any (n : Int) (h1 : -9223372036854775808 ≤ n) (h2 : n ≤ 9223372036854775807) (w : World) :
    Calls Tryd.prog 107 #[.int .i64 n] w fun e w' => e = .returned (.int .u64 (Leb.zig n : Nat)) ∧ w' = w := by
  have H := Lib.hid (zig_bits n h1 h2)
  go_enter Tryd.func107, Tryd.ntmps107
  go_wp2
  go_ret
  exact ⟨by rw [← H.out]; rfl, rfl⟩

theorem zag_bits (u : Nat) (h : u < 18446744073709551616) :
    bits .xor .i64 ((u : Int) / 2) (wrap64 (-wrap64 (bits .and .u64 (u : Int) 1))) = Leb.zag u := by
  have e1 : ((u : Int) / 2) = ((u / 2 : Nat) : Int) := by omega
  rw [Lib.u64_and1 _ (by omega) (by omega), e1]
  by_cases h0 : u % 2 = 0
  · have e2 : wrap64 (-wrap64 ((u : Int) % 2)) = 0 := by
      have : (u : Int) % 2 = 0 := by omega
      rw [this]; simp [wrap64]
    rw [e2, xori64_zero _ (by omega)]
    unfold Leb.zag
    rw [if_pos h0]
  · have e2 : wrap64 (-wrap64 ((u : Int) % 2)) = -1 := by
      have : (u : Int) % 2 = 1 := by omega
      rw [this]; simp [wrap64]
    rw [e2, bits_xor_comm, Lib.i64_not _ (by omega)]
    unfold Leb.zag
    rw [if_neg h0]

theorem zag_any (u : Nat) (h : u < 18446744073709551616) (w : World) :
    Calls Tryd.prog 57 #[.int .u64 u] w fun e w' => e = .returned (.int .i64 (Leb.zag u)) ∧ w' = w := by
  have H := Lib.hid (zag_bits u h)
  go_enter Tryd.func57, Tryd.ntmps57
  go_wp2
  go_ret
  exact ⟨by rw [← H.out]; rfl, rfl⟩
end Go.Proofs.YtohgmkgclgoflaaDoor

/- The walks of package leb's Len, Put, judge. -/
namespace Go.Proofs.YtohgmkgclgoflaaDoor
open Go.RowKit

theorem bitLen_pos (x : Nat) (h : 0 < x) (hx : x < 18446744073709551616) : 1 ≤ Lib.bitLen x := by
  rw [Lib.bitLen_half x (by omega) hx]; omega
theorem bitLen_small (x : Nat) (h : x < 128) : Lib.bitLen x ≤ 7 := Lib.bitLenAux_le 64 x 7 h
theorem bitLen_odd (x : Nat) (h : 0 < x) (hx : x < 18446744073709551616) : Lib.bitLen (x / 2 * 2 + 1) = Lib.bitLen x := by
  rw [Lib.bitLen_half x (by omega) hx, Lib.bitLen_half (x / 2 * 2 + 1) (by omega) (by omega)]
  congr 2
  omega
/-- how many bytes: of seven bits each, and one bit at least -/
theorem putF_bits (f : Nat) : ∀ n : Nat, n < 2 * 128 ^ f → n < 18446744073709551616 → (Leb.putF (f + 1) n).length = (Lib.bitLen (n / 2 * 2 + 1) + 6) / 7 := by
  induction f with
  | zero =>
    intro n h _
    have h2 : n < 2 := by simpa using h
    have e : n / 2 * 2 + 1 = 1 := by omega
    rw [e, Leb.putF, if_pos (by omega)]
    rfl
  | succ f ih =>
    intro n h h64
    by_cases hn : n < 128
    · have h1 := bitLen_small (n / 2 * 2 + 1) (by omega)
      have h2 := bitLen_pos (n / 2 * 2 + 1) (by omega) (by omega)
      rw [Leb.putF, if_pos hn, List.length_singleton]
      omega
    · have h1 : n / 128 < 2 * 128 ^ f := by
        rw [Nat.pow_succ] at h
        rw [Nat.div_lt_iff_lt_mul (by omega)]
        omega
      have e1 := Lib.bitLen_shift 7 (n / 2 * 2 + 1) (by omega) (by omega)
      have e2 : (n / 2 * 2 + 1) / 2 ^ 7 = n / 128 := by omega
      rw [e2] at e1
      rw [Leb.putF, if_neg hn, List.length_cons, ih (n / 128) h1 (by omega), bitLen_odd (n / 128) (by omega) (by omega), e1]
      omega
theorem put_bits (n : Nat) (hn : n < 18446744073709551616) : (Leb.put n).length = (Lib.bitLen (n / 2 * 2 + 1) + 6) / 7 := by
  have e : 2 * 128 ^ 9 = 18446744073709551616 := by decide
  exact putF_bits 9 n (by rw [e]; exact hn) hn

theorem or1_u64 (n : Nat) (h : n < 18446744073709551616) : bits .or .u64 (n : Int) 1 = ((n / 2 * 2 + 1 : Nat) : Int) := by
  have h2 := (bits_nat .u64 64 (by decide) wraps_u64 n 1 (by omega) (by decide)).2
  have e : ((1 : Nat) : Int) = 1 := rfl
  rw [e] at h2
  rw [h2]
  congr 1
  apply Nat.eq_of_testBit_eq
  intro i
  rw [Nat.testBit_or]
  cases i with
  | zero => simp
  | succ i =>
    rw [Nat.testBit_succ, Nat.testBit_succ, Nat.testBit_succ]
    have e1 : (n / 2 * 2 + 1) / 2 = n / 2 := by omega
    rw [e1]
    simp

theorem len_any (n : Nat) (hn : n < 18446744073709551616) (w : World) :
    Calls Tryd.prog 97 #[.int .u64 n] w fun e w' => e = .returned (.int .i64 ((Leb.put n).length : Nat)) ∧ w' = w := by
  have H1 := Lib.hid (len64_any (n / 2 * 2 + 1) (by omega) w)
  have H2 := Lib.hid (put_bits n hn)
  have H3 := Lib.hid (or1_u64 n hn)
  have hle : Lib.bitLen (n / 2 * 2 + 1) ≤ 64 := Lib.bitLenAux_le 64 _ 64 (by omega)
  generalize Lib.bitLen (n / 2 * 2 + 1) = k at H1 H2 hle
  go_enter Tryd.func97, Tryd.ntmps97
  go_wp2_with fail
  rw [H3.out]
  refine H1.out.mono ?_
  rintro e w' ⟨rfl, hw⟩
  rw [hw]
  clear hw w'
  go_wp2
  go_ret
  exact ⟨by rw [H2.out]; go_num, rfl⟩

/-- what is wrong with so many bytes of which the last one is c -/
def Leb.judge (k c : Nat) : Nat := if k < 10 ∧ 128 ≤ c then 30 else if k = 10 ∧ 1 < c then 5 else if 1 < k ∧ c = 0 then 5 else 0

theorem judge_any (k c : Nat) (hk : k ≤ 10) (hc : c < 256) (w : World) :
    Calls Tryd.prog 44 #[.int .i64 k, .int .u8 c] w fun e w' => e = .returned (.int .i64 (Leb.judge k c : Nat)) ∧ w' = w := by
  have H : Hid (∀ j : Nat, Leb.judge k c = j → Leb.judge k c = j) := fun _ h => h
  by_cases h1 : k < 10 ∧ 128 ≤ c
  · have e : Leb.judge k c = 30 := by unfold Leb.judge; rw [if_pos h1]
    rw [e]
    have b1 : decide ((k : Int) < 10) = true := decide_eq_true (by omega)
    have b2 : decide ((128 : Int) ≤ (c : Int)) = true := decide_eq_true (by omega)
    clear e
    go_enter Tryd.func44, Tryd.ntmps44
    go_wp2
    go_ret
    exact ⟨rfl, rfl⟩
  · by_cases h2 : k = 10 ∧ 1 < c
    · have e : Leb.judge k c = 5 := by unfold Leb.judge; rw [if_neg h1, if_pos h2]
      rw [e]
      obtain ⟨rfl, h2⟩ := h2
      have b2 : decide ((1 : Int) < (c : Int)) = true := decide_eq_true (by omega)
      clear e h1
      go_enter Tryd.func44, Tryd.ntmps44
      go_wp2
      go_ret
      exact ⟨rfl, rfl⟩
    · by_cases h3 : 1 < k ∧ c = 0
      · have e : Leb.judge k c = 5 := by unfold Leb.judge; rw [if_neg h1, if_neg h2, if_pos h3]
        rw [e]
        obtain ⟨h3, rfl⟩ := h3
        clear e h1 h2
        by_cases h10 : k = 10
        · subst h10
          go_enter Tryd.func44, Tryd.ntmps44
          go_wp2
          go_ret
          exact ⟨rfl, rfl⟩
        · have b1 : (k : Int) < 10 := by omega
          have b2 : ((k : Int) == 10) = false := by rw [beq_eq_false_iff_ne]; omega
          have b3 : (1 : Int) < (k : Int) := by omega
          go_enter Tryd.func44, Tryd.ntmps44
          go_wp2
          go_ret
          exact ⟨rfl, rfl⟩
      · have e : Leb.judge k c = 0 := by unfold Leb.judge; rw [if_neg h1, if_neg h2, if_neg h3]
        rw [e]
        clear e
        by_cases h10 : k = 10
        · subst h10
          have b2 : ¬ (1 : Int) < (c : Int) := by omega
          have b3 : ((c : Int) == 0) = false := by rw [beq_eq_false_iff_ne]; omega
          clear h1 h2 h3
          go_enter Tryd.func44, Tryd.ntmps44
          go_wp2
          go_ret
          exact ⟨rfl, rfl⟩
        · have b1 : (k : Int) < 10 := by omega
          have b2 : ((k : Int) == 10) = false := by rw [beq_eq_false_iff_ne]; omega
          have b3 : ¬ (128 : Int) ≤ (c : Int) := by omega
          by_cases hk1 : 1 < k
          · have b4 : (1 : Int) < (k : Int) := by omega
            have b5 : ((c : Int) == 0) = false := by rw [beq_eq_false_iff_ne]; omega
            clear h1 h2 h3
            go_enter Tryd.func44, Tryd.ntmps44
            go_wp2
            go_ret
            exact ⟨rfl, rfl⟩
          · have b4 : ¬ (1 : Int) < (k : Int) := by omega
            clear h1 h2 h3
            go_enter Tryd.func44, Tryd.ntmps44
            go_wp2
            go_ret
            exact ⟨rfl, rfl⟩
end Go.Proofs.YtohgmkgclgoflaaDoor

/- The walk of package leb's Put. -/
namespace Go.Proofs.YtohgmkgclgoflaaDoor
open Go.RowKit

/-- make([]byte, 0, c): a slice of the call's own, of no bytes yet -/
theorem make_none (w : World) (c : Nat) (hc : c ≤ 1000000) : ∃ w', (Instr.makeSlice 22 (.int .i64 0) (.int .i64 (c : Int))).run Tryd.prog w = .ok (.slice (some ⟨w.heap.size, 0, none⟩) 0 c) w' ∧ Mine w' w.heap.size w.heap.size c [] ∧ Below w.heap.size w w' := by
  obtain ⟨i, hi, hz, hsz, hby⟩ := info_parts info8
  obtain ⟨w', h1, h2, h3⟩ := run_make_own (P := Tryd.prog) w w.heap.size 22 5 i (.int .u8 0) 1 Tryd.underlying22 hi hz hsz .i64 .i64 c (by rw [hby]; omega) (by unfold maxLen; omega) (Nat.le_refl _)
  exact ⟨w', h1, h2, (Below.refl _ _).grown h3 (Nat.le_refl _) (fun k hk => by cases hk)⟩

theorem or128_byte (m : Nat) : bits .or .u8 ((m : Int) % 256) 128 = ((m % 128 + 128 : Nat) : Int) := by
  rw [Lib.u8_or128_any _ (by omega) (by omega)]
  omega

set_option maxRecDepth 100000 in
set_option maxHeartbeats 1000000 in
theorem put_any (n : Nat) (hn : n < 18446744073709551616) (w : World) :
    Calls Tryd.prog 92 #[.int .u64 n] w fun e w' => ∃ g cap, e = .returned (.slice (some ⟨g, 0, none⟩) (Leb.put n).length cap) ∧ Mine w' w.heap.size g cap (Leb.put n) ∧ Below w.heap.size w w' := by
  have HP := Lib.hid (Leb.putting_start hn)
  have HL := Lib.hid (len_any n hn w)
  have hl10 := Leb.put_length_le n
  obtain ⟨k, hk⟩ : ∃ k, k = (Leb.put n).length := ⟨_, rfl⟩
  rw [← hk] at HL hl10
  clear hk
  obtain ⟨w1, hmk, hm0, hb0⟩ := make_none w k (by omega)
  have HM := Lib.hid hm0
  have HB := Lib.hid hb0
  clear hm0 hb0
  go_enter Tryd.func92, Tryd.ntmps92
  go_wp2_with fail
  refine HL.out.mono ?_
  rintro e w' ⟨rfl, hw⟩
  rw [hw]
  clear hw w' HL
  go_wp2
  go_loopw [0, 3] (fun v0 v3 wr => ∃ (m : Nat) (xs : List UInt8), v0 = .int .u64 m ∧ m < 18446744073709551616 ∧ xs.length ≤ 9 ∧ Hid (Leb.Putting n xs m ∧ Has wr w.heap.size v3 xs ∧ Below w.heap.size w wr)) (fun v0 _ _ => (intOf v0).toNat)
  case atStart => exact ⟨n, [], rfl, hn, by simp, HP.out, HM.out.has, HB.out⟩
  case round =>
    obtain ⟨m, xs, rfl, hm, hx, HK⟩ := hrel
    have hB := HK.out.2.2.size
    have HO := Lib.hid HK.out.2.1
    by_cases hgt : 127 < m
    · have hcn := Leb.byte_high m
      have HN := Lib.hid (Leb.putting_next HK.out.1 hgt)
      generalize UInt8.ofNat (m % 128 + 128) = c at hcn HN
      have hor : bits .or .u8 ((m : Int) % 256) 128 = (c.toNat : Int) := by rw [or128_byte, hcn]
      go_wp2_with (at_builtin; refine wp_push HO.out c (by omega) hB (by first | exact hor | omega | (rw [hcn]; omega)) rfl rfl rfl rfl rfl ?_; intro g cap W hmine hb)
      go_roundw
      case rel => exact ⟨m / 128, xs ++ [c], by go_num, by omega, by have := HN.out.1; exact this, HN.out, by have := hmine.has; simpa using this, HK.out.2.2.trans hb⟩
      case measure => simp [intOf]; omega
    · have hcn := Leb.byte_low m (by omega)
      have HN := Lib.hid (Leb.putting_last HK.out.1 (by omega))
      generalize UInt8.ofNat m = c at hcn HN
      go_wp2_with (at_builtin; refine wp_push HO.out c (by omega) hB (by omega) rfl rfl rfl rfl rfl ?_; intro g cap W hmine hb)
      go_ret
      refine ⟨g, cap, ?_, ?_, HK.out.2.2.trans hb⟩
      · rw [← HN.out]; simp
      · rw [← HN.out]; exact hmine
end Go.Proofs.YtohgmkgclgoflaaDoor

/- The walk of package leb's Get. -/
namespace Go.Proofs.YtohgmkgclgoflaaDoor
open Go.RowKit

set_option maxRecDepth 100000 in
theorem get_out (p : Option Addr) (c n : Nat) (a : Int) (h : a < 0 ∨ (n : Int) < a) (w : World) :
    Calls Tryd.prog 39 #[.slice p n c, .int .i64 a] w fun e w' => e = .returned (.tuple #[.int .u64 0, .int .i64 0, .int .i64 30]) ∧ w' = w := by
  by_cases h0 : a < 0
  · go_enter Tryd.func39, Tryd.ntmps39
    go_wp2
    go_step3
    go_wp2
    try rw [Exit.noGoto_ret]
    go_ret3
    exact ⟨rfl, rfl⟩
  · have h1 : (n : Int) < a := by omega
    have hb0 : decide (a < 0) = false := decide_eq_false h0
    go_enter Tryd.func39, Tryd.ntmps39
    go_wp2
    go_step3
    go_wp2
    try rw [Exit.noGoto_ret]
    go_ret3
    exact ⟨rfl, rfl⟩

set_option maxRecDepth 100000 in
set_option maxHeartbeats 400000 in
theorem get_end (p : Option Addr) (c n : Nat) (w : World) :
    Calls Tryd.prog 39 #[.slice p n c, .int .i64 n] w fun e w' => e = .returned (.tuple #[.int .u64 0, .int .i64 0, .int .i64 30]) ∧ w' = w := by
  have HJ := Lib.hid (judge_any 0 128 (by decide) (by decide) w)
  have e0 : Leb.judge 0 128 = 30 := by decide
  rw [e0] at HJ
  clear e0
  cases p with
  | none =>
    go_enter Tryd.func39, Tryd.ntmps39
    go_wp2_with fail
    go_step3
    go_wp2_with fail
    go_step3
    go_wp2_with fail
    go_loop [7, 8, 9, 25] (fun v7 v8 v9 v25 => v7 = .int .u64 0 ∧ v8 = .int .i64 0 ∧ v9 = .int .u8 128 ∧ v25 = .int .i64 0) (fun _ _ _ _ => 0)
    case atStart => exact ⟨rfl, rfl, rfl, rfl⟩
    case round =>
      obtain ⟨rfl, rfl, rfl, rfl⟩ := hrel
      go_wp2_with fail
      refine HJ.out.mono ?_
      rintro e w' ⟨rfl, hw⟩
      rw [hw]
      clear hw w'
      go_wp2
      try rw [Exit.noGoto_ret]
      go_ret3
      exact ⟨rfl, rfl⟩
  | some p =>
    by_cases h : c = n
    all_goals
      go_enter Tryd.func39, Tryd.ntmps39
      go_wp2_with fail
      go_step3
      go_wp2_with fail
      go_step3
      go_wp2_with fail
      go_loop [7, 8, 9, 25] (fun v7 v8 v9 v25 => v7 = .int .u64 0 ∧ v8 = .int .i64 0 ∧ v9 = .int .u8 128 ∧ v25 = .int .i64 0) (fun _ _ _ _ => 0)
      case atStart => exact ⟨rfl, rfl, rfl, rfl⟩
      case round =>
        obtain ⟨rfl, rfl, rfl, rfl⟩ := hrel
        go_wp2_with fail
        refine HJ.out.mono ?_
        rintro e w' ⟨rfl, hw⟩
        rw [hw]
        clear hw w'
        go_wp2
        try rw [Exit.noGoto_ret]
        go_ret3
        exact ⟨rfl, rfl⟩

theorem andNot128_fin : ∀ v : Fin 256, bits .andNot .u8 (v.val : Int) 128 = ((v.val % 128 : Nat) : Int) := by decide +kernel
theorem andNot128 (v : Nat) (h : v < 256) : bits .andNot .u8 (v : Int) 128 = ((v % 128 : Nat) : Int) := andNot128_fin ⟨v, h⟩

/-- seven bits put behind those that stand -/
theorem or_join7 (m x k : Nat) (hm : m < 128 ^ k) (hx : x * 128 ^ k < 18446744073709551616) (hm2 : m < 18446744073709551616) : bits .or .u64 (m : Int) (IntKind.u64.wrap ((x : Int) * 2 ^ (7 * k))) = ((m + x * 128 ^ k : Nat) : Int) := by
  have e : (2 : Nat) ^ (7 * k) = 128 ^ k := by rw [Nat.pow_mul]
  have e2 : ((x : Int) * 2 ^ (7 * k)) = ((x * 128 ^ k : Nat) : Int) := by
    rw [← e]; push_cast; rfl
  have e3 : IntKind.u64.wrap (((x * 128 ^ k : Nat) : Int)) = ((x * 128 ^ k : Nat) : Int) := by
    rw [IntKind.wrap_u64]; omega
  rw [e2, e3, bits_join_low .u64 64 (by decide) wraps_u64 (7 * k) (m : Int) _ (by omega) (by rw [← e] at hm; exact_mod_cast hm) (by omega) (by omega) (by rw [← e]; push_cast; exact Int.mul_emod_left _ _) (by omega)]
  omega

theorem or_join7' (m v k : Nat) (hm : m < 128 ^ k) (hx : m + v % 128 * 128 ^ k < 18446744073709551616) : bits .or .u64 (m : Int) (IntKind.u64.wrap ((v : Int) % 128 * 2 ^ (7 * k))) = ((m + v % 128 * 128 ^ k : Nat) : Int) := by
  have e : ((v : Int) % 128) = ((v % 128 : Nat) : Int) := by omega
  rw [e]
  exact or_join7 m (v % 128) k hm (by omega) (by omega)

theorem val_take_succ (r : List UInt8) (k : Nat) (h : k < r.length) : Leb.val (r.take (k + 1)) = Leb.val (r.take k) + r[k].toNat % 128 * 128 ^ k := by
  induction r generalizing k with
  | nil => simp at h
  | cons c r ih =>
    cases k with
    | zero => simp [Leb.val]
    | succ k =>
      have := ih k (by simpa using h)
      simp only [List.take_succ_cons, Leb.val, List.getElem_cons_succ, this, Nat.pow_succ]
      rw [Nat.add_mul, Nat.mul_assoc]
      omega
theorem val_take_lt (r : List UInt8) (k : Nat) : Leb.val (r.take k) < 128 ^ k := by
  induction k generalizing r with
  | zero => simp [Leb.val]
  | succ k ih =>
    cases r with
    | nil => simp only [List.take_nil, Leb.val]; exact Nat.pow_pos (by omega)
    | cons c r =>
      have := ih r
      simp only [List.take_succ_cons, Leb.val, Nat.pow_succ]
      omega

set_option maxRecDepth 100000 in
set_option maxHeartbeats 400000 in
theorem get_in (b o c a : Nat) (l : List UInt8) (hl : l.length ≤ 140737488351232) (hlc : l.length ≤ c) (ha : a < l.length) (w : World) (hc : Cells w b o l) :
    Calls Tryd.prog 39 #[.slice (some ⟨b, o, none⟩) l.length c, .int .i64 a] w fun e w' => e = .returned (gotV l a) ∧ w' = w := by
  obtain ⟨r, hr⟩ : ∃ r, r = l.drop a := ⟨_, rfl⟩
  have hrl : r.length = l.length - a := by rw [hr, List.length_drop]
  have HC : Hid (∀ j (h : j < r.length), w.cell? ⟨b, o + a + j, none⟩ = some (.int .u8 (r[j].toNat : Int))) := by
    intro j h
    have := hc (a + j) (by omega)
    rw [Nat.add_assoc, this]
    subst hr
    rw [List.getElem_drop]
  have HB : Hid (∀ e n k, Leb.get r = ⟨e, n, k⟩ → Leb.get (l.drop a) = ⟨e, n, k⟩) := by
    intro e n k h
    rw [← hr]; exact h
  have hca : ¬ c = a := by omega
  have HJ : Hid (∀ k v : Nat, k ≤ 10 → v < 256 → Calls Tryd.prog 44 #[.int .i64 k, .int .u8 v] w fun e w' => e = .returned (.int .i64 (Leb.judge k v : Nat)) ∧ w' = w) := fun k v h1 h2 => judge_any k v h1 h2 w
  clear hc hr
  go_enter Tryd.func39, Tryd.ntmps39
  go_wp2_with fail
  go_step3
  go_wp2_with fail
  go_step3
  go_wp2_with fail
  go_loop [7, 8, 9, 25] (fun v7 v8 v9 v25 => ∃ k m v : Nat, k ≤ 9 ∧ k ≤ r.length ∧ v7 = .int .u64 m ∧ v8 = .int .i64 k ∧ v9 = .int .u8 v ∧ v25 = .int .i64 k ∧ 127 < v ∧ v < 256 ∧ m < 18446744073709551616 ∧ Hid (m = Leb.val (r.take k) ∧ ∀ j (h : j < r.length), j < k → 127 < r[j].toNat)) (fun _ v8 _ _ => 10 - (intOf v8).toNat)
  case atStart => exact ⟨0, 0, 128, by omega, by omega, rfl, rfl, rfl, rfl, by omega, by omega, by omega, rfl, fun j h h' => by omega⟩
  case round =>
    obtain ⟨k, m, v, hk, hkr, rfl, rfl, rfl, rfl, hv1, hv2, hm, HK⟩ := hrel
    by_cases hend : k = r.length
    · have hh := Leb.high_eq 10 r k (by omega) (by omega) HK.out.2 (.inr (.inl hend))
      have HG := Lib.hid (gotV_bad l a 30 (by omega) (HB.out _ _ _ ((Leb.getF_high 10 true r).2.1 (by rw [hh]; exact hend) (by omega))))
      have hj : Leb.judge k v = 30 := by unfold Leb.judge; rw [if_pos ⟨by omega, by omega⟩]
      have HJ' := Lib.hid (HJ.out k v (by omega) hv2)
      rw [hj] at HJ'
      have hb2 : ¬ k < l.length - a := by omega
      clear HK hh hj HC HB HJ hend hrl hkr
      go_wp2_with fail
      refine HJ'.out.mono ?_
      rintro e w' ⟨rfl, hw⟩
      rw [hw]
      clear hw w'
      go_wp2
      try rw [Exit.noGoto_ret]
      go_ret3
      exact ⟨by rw [HG.out]; rfl, rfl⟩
    · have hlt : k < r.length := by omega
      have hcell := HC.out k hlt
      have hv256 : r[k].toNat < 256 := r[k].toNat_lt
      have hb2 : k < l.length - a := by omega
      have hand := andNot128 r[k].toNat hv256
      obtain ⟨v', hv'⟩ : ∃ v', v' = r[k].toNat := ⟨_, rfl⟩
      rw [← hv'] at hcell hv256 hand
      have HV := Lib.hid hv'
      have HR := Lib.hid hrl
      clear hv' hrl
      by_cases hhi : 127 < v'
      · have HN : Hid (∀ j (h : j < r.length), j < k + 1 → 127 < r[j].toNat) := by
          intro j h hj
          by_cases e : j = k
          · subst e; rw [← HV.out]; exact hhi
          · exact HK.out.2 j h (by omega)
        by_cases h9 : k = 9
        · have HG := Lib.hid (gotV_bad l a 5 (by omega) (HB.out _ _ _ ((Leb.getF_high 10 true r).1 (Leb.high_eq 10 r 10 (by omega) (by omega) (fun j h hj => HN.out j h (by omega)) (.inl rfl)))))
          have hj : Leb.judge 10 v' = 5 := by unfold Leb.judge; rw [if_neg (by omega), if_pos ⟨rfl, by omega⟩]
          have HJ' := Lib.hid (HJ.out 10 v' (by omega) hv256)
          rw [hj] at HJ'
          clear HK HN HC HB HJ HV HR hj
          subst h9
          go_wp2_with fail
          refine HJ'.out.mono ?_
          rintro e w' ⟨rfl, hw⟩
          rw [hw]
          clear hw w'
          go_wp2
          try rw [Exit.noGoto_ret]
          go_ret3
          exact ⟨by rw [HG.out]; rfl, rfl⟩
        · have h91 : ((k : Int) + 1 == 10) = false := by rw [beq_eq_false_iff_ne]; omega
          have hlim : k ≤ 8 := by omega
          have hval := val_take_succ r k hlt
          rw [← HV.out, ← HK.out.1] at hval
          have hp : (128 : Nat) ^ (k + 1) ≤ 128 ^ 9 := Nat.pow_le_pow_right (by omega) (by omega)
          have e9 : (128 : Nat) ^ 9 = 9223372036854775808 := by decide
          have hlt2 := val_take_lt r (k + 1)
          rw [hval] at hlt2
          have hlt3 : m + v' % 128 * 128 ^ k < 18446744073709551616 := by omega
          have hor := or_join7' m v' k (by rw [HK.out.1]; exact val_take_lt r k) hlt3
          have HX : Hid (m + v' % 128 * 128 ^ k = Leb.val (r.take (k + 1))) := hval.symm
          clear h9 hval hp e9 hlt2 HC HB HJ HK
          generalize m + v' % 128 * 128 ^ k = m2 at hor HX hlt3
          go_wp2_with fail
          go_round
          case rel => exact ⟨k + 1, m2, v', by omega, by omega, rfl, by go_num, rfl, by go_num, hhi, hv256, hlt3, HX.out, HN.out⟩
          case measure => simp [intOf]; omega
      · have hh := Leb.high_eq 10 r k (by omega) hkr HK.out.2 (.inr (.inr ⟨hlt, by rw [← HV.out]; exact hhi⟩))
        have hg := (Leb.getF_high 10 true r).2.2 (by omega) (by omega)
        simp only [hh] at hg
        rw [← HV.out] at hg
        have hlo : v' < 128 := by omega
        by_cases hbad : (k + 1 = 10 ∧ 1 < v') ∨ ((true = false ∨ 0 < k) ∧ v' = 0)
        · rw [if_pos hbad] at hg
          have HG := Lib.hid (gotV_bad l a 5 (by omega) (HB.out _ _ _ hg))
          have hj : Leb.judge (k + 1) v' = 5 := by
            unfold Leb.judge
            rw [if_neg (by omega)]
            by_cases h1 : k + 1 = 10 ∧ 1 < v'
            · rw [if_pos h1]
            · rcases hbad with h2 | ⟨h2 | h2, h3⟩
              · exact absurd h2 h1
              · cases h2
              · rw [if_neg h1, if_pos ⟨by omega, h3⟩]
          have HJ' := Lib.hid (HJ.out (k + 1) v' (by omega) hv256)
          rw [hj] at HJ'
          clear HK HC HB HJ HV HR hj hg hh hbad hhi
          go_wp2_with fail
          refine HJ'.out.mono ?_
          rintro e w' ⟨rfl, hw⟩
          rw [hw]
          clear hw w'
          go_wp2
          try rw [Exit.noGoto_ret]
          go_ret3
          exact ⟨by rw [HG.out]; rfl, rfl⟩
        · rw [if_neg hbad] at hg
          have hok := Leb.get_ok r (by rw [show Leb.get r = _ from hg])
          rw [show Leb.get r = _ from hg] at hok
          have hlim : Leb.val (r.take (k + 1)) < 18446744073709551616 := hok.1
          have hval := val_take_succ r k hlt
          rw [← HV.out, ← HK.out.1] at hval
          have HG := Lib.hid (gotV_ok l a _ _ (HB.out _ _ _ hg))
          rw [hval] at HG hlim
          have hor := or_join7' m v' k (by rw [HK.out.1]; exact val_take_lt r k) hlim
          have hj : Leb.judge (k + 1) v' = 0 := by
            unfold Leb.judge
            rw [if_neg (by omega), if_neg (by omega), if_neg]
            rintro ⟨h1, h2⟩
            exact hbad (.inr ⟨.inr (by omega), h2⟩)
          have HJ' := Lib.hid (HJ.out (k + 1) v' (by omega) hv256)
          rw [hj] at HJ'
          clear HK HC HB HJ HV HR hj hg hh hbad hhi hok hval
          generalize m + v' % 128 * 128 ^ k = m2 at hor HG hlim
          go_wp2_with fail
          refine HJ'.out.mono ?_
          rintro e w' ⟨rfl, hw⟩
          rw [hw]
          clear hw w'
          go_wp2
          try rw [Exit.noGoto_ret]
          go_ret3
          exact ⟨by rw [HG.out] <;> go_num, rfl⟩

theorem get_any (p : Option Addr) (c : Nat) (l : List UInt8) (a : Int) (hl : l.length ≤ 140737488351232) (hlc : l.length ≤ c) (w : World) (h : At w p l) :
    Calls Tryd.prog 39 #[.slice p l.length c, .int .i64 a] w fun e w' => e = .returned (gotV l a) ∧ w' = w := by
  by_cases h0 : a < 0 ∨ (l.length : Int) < a
  · rw [gotV_out l a (by omega)]
    exact get_out p c l.length a h0 w
  · obtain ⟨n, rfl⟩ : ∃ n : Nat, a = (n : Int) := ⟨a.toNat, by omega⟩
    by_cases h1 : n = l.length
    · rw [gotV_out l n (by omega), h1]
      exact get_end p c l.length w
    · obtain ⟨b, o, rfl, _, hc⟩ := at_some h (by omega)
      exact get_in b o c n l hl hlc (by omega) w hc
end Go.Proofs.YtohgmkgclgoflaaDoor

/- The walks of package leb's Len, Put, judge. -/
import Derived.Test.YtoojflhafmnggaaWLen64
import Derived.Test.YtoojflhafmnggaaWZig
import Derived.Lib.VarintBits
namespace Go.Proofs.Ytoojflhafmnggaa
open Go.RowKit

theorem bitLen_pos (x : Nat) (h : 0 < x) (hx : x < 18446744073709551616) : 1 ≤ Lib.bitLen x := by
  rw [Lib.bitLen_half x (by omega) hx]; omega
theorem bitLen_small (x : Nat) (h : x < 128) : Lib.bitLen x ≤ 7 := Lib.bitLenAux_le 64 x 7 h
theorem bitLen_odd (x : Nat) (h : 0 < x) (hx : x < 18446744073709551616) : Lib.bitLen (x / 2 * 2 + 1) = Lib.bitLen x := by
  rw [Lib.bitLen_half x (by omega) hx, Lib.bitLen_half (x / 2 * 2 + 1) (by omega) (by omega)]
  congr 2
  omega
/-- how many bytes: of seven bits each, and one bit at least -/
theorem putF_bits (f : Nat) : ∀ n : Nat, n < 2 * 128 ^ f → n < 18446744073709551616 → (Leb.putF (f + 1) n).length = (Lib.bitLen (n / 2 * 2 + 1) + 6) / 7 := by
  induction f with
  | zero =>
    intro n h _
    have h2 : n < 2 := by simpa using h
    have e : n / 2 * 2 + 1 = 1 := by omega
    rw [e, Leb.putF, if_pos (by omega)]
    rfl
  | succ f ih =>
    intro n h h64
    by_cases hn : n < 128
    · have h1 := bitLen_small (n / 2 * 2 + 1) (by omega)
      have h2 := bitLen_pos (n / 2 * 2 + 1) (by omega) (by omega)
      rw [Leb.putF, if_pos hn, List.length_singleton]
      omega
    · have h1 : n / 128 < 2 * 128 ^ f := by
        rw [Nat.pow_succ] at h
        rw [Nat.div_lt_iff_lt_mul (by omega)]
        omega
      have e1 := Lib.bitLen_shift 7 (n / 2 * 2 + 1) (by omega) (by omega)
      have e2 : (n / 2 * 2 + 1) / 2 ^ 7 = n / 128 := by omega
      rw [e2] at e1
      rw [Leb.putF, if_neg hn, List.length_cons, ih (n / 128) h1 (by omega), bitLen_odd (n / 128) (by omega) (by omega), e1]
      omega
theorem put_bits (n : Nat) (hn : n < 18446744073709551616) : (Leb.put n).length = (Lib.bitLen (n / 2 * 2 + 1) + 6) / 7 := by
  have e : 2 * 128 ^ 9 = 18446744073709551616 := by decide
  exact putF_bits 9 n (by rw [e]; exact hn) hn

theorem or1_u64 (n : Nat) (h : n < 18446744073709551616) : bits .or .u64 (n : Int) 1 = ((n / 2 * 2 + 1 : Nat) : Int) := by
  have h2 := (bits_nat .u64 64 (by decide) wraps_u64 n 1 (by omega) (by decide)).2
  have e : ((1 : Nat) : Int) = 1 := rfl
  rw [e] at h2
  rw [h2]
  congr 1
  apply Nat.eq_of_testBit_eq
  intro i
  rw [Nat.testBit_or]
  cases i with
  | zero => simp
  | succ i =>
    rw [Nat.testBit_succ, Nat.testBit_succ, Nat.testBit_succ]
    have e1 : (n / 2 * 2 + 1) / 2 = n / 2 := by omega
    rw [e1]
    simp

theorem len_any (n : Nat) (hn : n < 18446744073709551616) (w : World) :
    Calls Try.prog 32 #[.int .u64 n] w fun e w' => e = .returned (.int .i64 ((Leb.put n).length : Nat)) ∧ w' = w := by
  have H1 := Lib.hid (len64_any (n / 2 * 2 + 1) (by omega) w)
  have H2 := Lib.hid (put_bits n hn)
  have H3 := Lib.hid (or1_u64 n hn)
  have hle : Lib.bitLen (n / 2 * 2 + 1) ≤ 64 := Lib.bitLenAux_le 64 _ 64 (by omega)
  generalize Lib.bitLen (n / 2 * 2 + 1) = k at H1 H2 hle
  go_enter Try.func32, Try.ntmps32
  go_wp2_with fail
  rw [H3.out]
  refine H1.out.mono ?_
  rintro e w' ⟨rfl, hw⟩
  rw [hw]
  clear hw w'
  go_wp2
  go_ret
  exact ⟨by rw [H2.out]; go_num, rfl⟩

/-- what is wrong with so many bytes of which the last one is c -/
def Leb.judge (k c : Nat) : Nat := if k < 10 ∧ 128 ≤ c then 30 else if k = 10 ∧ 1 < c then 5 else if 1 < k ∧ c = 0 then 5 else 0

theorem judge_any (k c : Nat) (hk : k ≤ 10) (hc : c < 256) (w : World) :
    Calls Try.prog 31 #[.int .i64 k, .int .u8 c] w fun e w' => e = .returned (.int .i64 (Leb.judge k c : Nat)) ∧ w' = w := by
  have H : Hid (∀ j : Nat, Leb.judge k c = j → Leb.judge k c = j) := fun _ h => h
  by_cases h1 : k < 10 ∧ 128 ≤ c
  · have e : Leb.judge k c = 30 := by unfold Leb.judge; rw [if_pos h1]
    rw [e]
    have b1 : decide ((k : Int) < 10) = true := decide_eq_true (by omega)
    have b2 : decide ((128 : Int) ≤ (c : Int)) = true := decide_eq_true (by omega)
    clear e
    go_enter Try.func31, Try.ntmps31
    go_wp2
    go_ret
    exact ⟨rfl, rfl⟩
  · by_cases h2 : k = 10 ∧ 1 < c
    · have e : Leb.judge k c = 5 := by unfold Leb.judge; rw [if_neg h1, if_pos h2]
      rw [e]
      obtain ⟨rfl, h2⟩ := h2
      have b2 : decide ((1 : Int) < (c : Int)) = true := decide_eq_true (by omega)
      clear e h1
      go_enter Try.func31, Try.ntmps31
      go_wp2
      go_ret
      exact ⟨rfl, rfl⟩
    · by_cases h3 : 1 < k ∧ c = 0
      · have e : Leb.judge k c = 5 := by unfold Leb.judge; rw [if_neg h1, if_neg h2, if_pos h3]
        rw [e]
        obtain ⟨h3, rfl⟩ := h3
        clear e h1 h2
        by_cases h10 : k = 10
        · subst h10
          go_enter Try.func31, Try.ntmps31
          go_wp2
          go_ret
          exact ⟨rfl, rfl⟩
        · have b1 : (k : Int) < 10 := by omega
          have b2 : ((k : Int) == 10) = false := by rw [beq_eq_false_iff_ne]; omega
          have b3 : (1 : Int) < (k : Int) := by omega
          go_enter Try.func31, Try.ntmps31
          go_wp2
          go_ret
          exact ⟨rfl, rfl⟩
      · have e : Leb.judge k c = 0 := by unfold Leb.judge; rw [if_neg h1, if_neg h2, if_neg h3]
        rw [e]
        clear e
        by_cases h10 : k = 10
        · subst h10
          have b2 : ¬ (1 : Int) < (c : Int) := by omega
          have b3 : ((c : Int) == 0) = false := by rw [beq_eq_false_iff_ne]; omega
          clear h1 h2 h3
          go_enter Try.func31, Try.ntmps31
          go_wp2
          go_ret
          exact ⟨rfl, rfl⟩
        · have b1 : (k : Int) < 10 := by omega
          have b2 : ((k : Int) == 10) = false := by rw [beq_eq_false_iff_ne]; omega
          have b3 : ¬ (128 : Int) ≤ (c : Int) := by omega
          by_cases hk1 : 1 < k
          · have b4 : (1 : Int) < (k : Int) := by omega
            have b5 : ((c : Int) == 0) = false := by rw [beq_eq_false_iff_ne]; omega
            clear h1 h2 h3
            go_enter Try.func31, Try.ntmps31
            go_wp2
            go_ret
            exact ⟨rfl, rfl⟩
          · have b4 : ¬ (1 : Int) < (k : Int) := by omega
            clear h1 h2 h3
            go_enter Try.func31, Try.ntmps31
            go_wp2
            go_ret
            exact ⟨rfl, rfl⟩
end Go.Proofs.Ytoojflhafmnggaa

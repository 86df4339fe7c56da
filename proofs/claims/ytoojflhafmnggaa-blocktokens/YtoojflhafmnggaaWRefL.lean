/- The walks of the document's own Put, Len, Zig, Zag, Get. -/
import Derived.Test.YtoojflhafmnggaaPush
import Derived.Test.YtoojflhafmnggaaLeb
namespace Go.Proofs.Ytoojflhafmnggaa
open Go.RowKit

/-- what is still to be put: xs stands, m is left -/
def Leb.Putting (n : Nat) (xs : List UInt8) (m : Nat) : Prop := xs.length ≤ 9 ∧ m < 2 * 128 ^ (9 - xs.length) ∧ Leb.put n = xs ++ Leb.putF (10 - xs.length) m

theorem Leb.putting_start {n : Nat} (h : n < 18446744073709551616) : Leb.Putting n [] n := by
  have e : 2 * 128 ^ 9 = 18446744073709551616 := by decide
  exact ⟨by simp, by simpa [e] using h, rfl⟩
theorem Leb.putting_lt {n : Nat} {xs : List UInt8} {m : Nat} (h : Leb.Putting n xs m) : m < 18446744073709551616 := by
  have e : 2 * 128 ^ 9 = 18446744073709551616 := by decide
  have h1 := Nat.pow_le_pow_right (show 0 < 128 by omega) (show 9 - xs.length ≤ 9 by omega)
  have := h.2.1
  omega
theorem Leb.putting_next {n : Nat} {xs : List UInt8} {m : Nat} (h : Leb.Putting n xs m) (hm : 127 < m) : Leb.Putting n (xs ++ [UInt8.ofNat (m % 128 + 128)]) (m / 128) := by
  obtain ⟨h1, h2, h3⟩ := h
  have h4 : xs.length ≤ 8 := by
    rcases Nat.lt_or_ge 8 xs.length with h5 | h5
    · have : 9 - xs.length = 0 := by omega
      rw [this] at h2
      simp at h2
      omega
    · exact h5
  refine ⟨by simp; omega, ?_, ?_⟩
  · have e : 9 - xs.length = (9 - (xs ++ [UInt8.ofNat (m % 128 + 128)]).length) + 1 := by simp; omega
    rw [e, Nat.pow_succ] at h2
    rw [Nat.div_lt_iff_lt_mul (by omega)]
    omega
  · have e : 10 - xs.length = (10 - (xs ++ [UInt8.ofNat (m % 128 + 128)]).length) + 1 := by simp; omega
    rw [h3, e, Leb.putF, if_neg (by omega), List.append_assoc]
    rfl
theorem Leb.putting_last {n : Nat} {xs : List UInt8} {m : Nat} (h : Leb.Putting n xs m) (hm : m ≤ 127) : xs ++ [UInt8.ofNat m] = Leb.put n := by
  obtain ⟨h1, h2, h3⟩ := h
  have e : 10 - xs.length = (9 - xs.length) + 1 := by omega
  rw [h3, e, Leb.putF, if_pos (by omega)]

set_option maxHeartbeats 1000000 in
theorem refPut_any (n : Nat) (hn : n < 18446744073709551616) (w : World) :
    Calls Try.prog 15 #[.int .u64 n] w fun e w' => ∃ g cap, e = .returned (.slice (some ⟨g, 0, none⟩) (Leb.put n).length cap) ∧ Mine w' w.heap.size g cap (Leb.put n) ∧ Below w.heap.size w w' := by
  have HP := Lib.hid (Leb.putting_start hn)
  go_enter Try.func15, Try.ntmps15
  go_wp2
  go_loopw [0, 3] (fun v0 v3 wr => ∃ (m : Nat) (xs : List UInt8), v0 = .int .u64 m ∧ m < 18446744073709551616 ∧ xs.length ≤ 9 ∧ Hid (Leb.Putting n xs m ∧ Has wr w.heap.size v3 xs ∧ Below w.heap.size w wr)) (fun v0 _ _ => (intOf v0).toNat)
  case atStart => exact ⟨n, [], rfl, hn, by simp, HP.out, has_nil _ _, Below.refl _ _⟩
  case round =>
    obtain ⟨m, xs, rfl, hm, hx, HK⟩ := hrel
    have hB := HK.out.2.2.size
    have HO := Lib.hid HK.out.2.1
    by_cases hgt : 127 < m
    · have hcn := Leb.byte_high m
      have HN := Lib.hid (Leb.putting_next HK.out.1 hgt)
      generalize UInt8.ofNat (m % 128 + 128) = c at hcn HN
      go_wp2_with (at_builtin; refine wp_push HO.out c (by omega) hB (by omega) rfl rfl rfl rfl rfl ?_; intro g cap W hmine hb)
      go_roundw
      case rel => exact ⟨m / 128, xs ++ [c], by go_num, by omega, by have := HN.out.1; exact this, HN.out, by have := hmine.has; simpa using this, HK.out.2.2.trans hb⟩
      case measure => simp [intOf]; omega
    · have hcn := Leb.byte_low m (by omega)
      have HN := Lib.hid (Leb.putting_last HK.out.1 (by omega))
      generalize UInt8.ofNat m = c at hcn HN
      go_wp2_with (at_builtin; refine wp_push HO.out c (by omega) hB (by omega) rfl rfl rfl rfl rfl ?_; intro g cap W hmine hb)
      go_ret
      refine ⟨g, cap, ?_, ?_, HK.out.2.2.trans hb⟩
      · rw [← HN.out]; simp
      · rw [← HN.out]; exact hmine

end Go.Proofs.Ytoojflhafmnggaa

/- The walk of package leb's Put. -/
import Derived.Test.YtoojflhafmnggaaWLebK
namespace Go.Proofs.Ytoojflhafmnggaa
open Go.RowKit

/-- make([]byte, 0, c): a slice of the call's own, of no bytes yet -/
theorem make_none (w : World) (c : Nat) (hc : c ≤ 1000000) : ∃ w', (Instr.makeSlice 22 (.int .i64 0) (.int .i64 (c : Int))).run Try.prog w = .ok (.slice (some ⟨w.heap.size, 0, none⟩) 0 c) w' ∧ Mine w' w.heap.size w.heap.size c [] ∧ Below w.heap.size w w' := by
  obtain ⟨i, hi, hz, hsz, hby⟩ := info_parts info8
  obtain ⟨w', h1, h2, h3⟩ := run_make_own (P := Try.prog) w w.heap.size 22 5 i (.int .u8 0) 1 Try.underlying22 hi hz hsz .i64 .i64 c (by rw [hby]; omega) (by unfold maxLen; omega) (Nat.le_refl _)
  exact ⟨w', h1, h2, (Below.refl _ _).grown h3 (Nat.le_refl _) (fun k hk => by cases hk)⟩

theorem or128_byte (m : Nat) : bits .or .u8 ((m : Int) % 256) 128 = ((m % 128 + 128 : Nat) : Int) := by
  rw [Lib.u8_or128_any _ (by omega) (by omega)]
  omega

set_option maxRecDepth 100000 in
set_option maxHeartbeats 1000000 in
theorem put_any (n : Nat) (hn : n < 18446744073709551616) (w : World) :
    Calls Try.prog 30 #[.int .u64 n] w fun e w' => ∃ g cap, e = .returned (.slice (some ⟨g, 0, none⟩) (Leb.put n).length cap) ∧ Mine w' w.heap.size g cap (Leb.put n) ∧ Below w.heap.size w w' := by
  have HP := Lib.hid (Leb.putting_start hn)
  have HL := Lib.hid (len_any n hn w)
  have hl10 := Leb.put_length_le n
  obtain ⟨k, hk⟩ : ∃ k, k = (Leb.put n).length := ⟨_, rfl⟩
  rw [← hk] at HL hl10
  clear hk
  obtain ⟨w1, hmk, hm0, hb0⟩ := make_none w k (by omega)
  have HM := Lib.hid hm0
  have HB := Lib.hid hb0
  clear hm0 hb0
  go_enter Try.func30, Try.ntmps30
  go_wp2_with fail
  refine HL.out.mono ?_
  rintro e w' ⟨rfl, hw⟩
  rw [hw]
  clear hw w' HL
  go_wp2
  go_loopw [0, 3] (fun v0 v3 wr => ∃ (m : Nat) (xs : List UInt8), v0 = .int .u64 m ∧ m < 18446744073709551616 ∧ xs.length ≤ 9 ∧ Hid (Leb.Putting n xs m ∧ Has wr w.heap.size v3 xs ∧ Below w.heap.size w wr)) (fun v0 _ _ => (intOf v0).toNat)
  case atStart => exact ⟨n, [], rfl, hn, by simp, HP.out, HM.out.has, HB.out⟩
  case round =>
    obtain ⟨m, xs, rfl, hm, hx, HK⟩ := hrel
    have hB := HK.out.2.2.size
    have HO := Lib.hid HK.out.2.1
    by_cases hgt : 127 < m
    · have hcn := Leb.byte_high m
      have HN := Lib.hid (Leb.putting_next HK.out.1 hgt)
      generalize UInt8.ofNat (m % 128 + 128) = c at hcn HN
      have hor : bits .or .u8 ((m : Int) % 256) 128 = (c.toNat : Int) := by rw [or128_byte, hcn]
      go_wp2_with (at_builtin; refine wp_push HO.out c (by omega) hB (by first | exact hor | omega | (rw [hcn]; omega)) rfl rfl rfl rfl rfl ?_; intro g cap W hmine hb)
      go_roundw
      case rel => exact ⟨m / 128, xs ++ [c], by go_num, by omega, by have := HN.out.1; exact this, HN.out, by have := hmine.has; simpa using this, HK.out.2.2.trans hb⟩
      case measure => simp [intOf]; omega
    · have hcn := Leb.byte_low m (by omega)
      have HN := Lib.hid (Leb.putting_last HK.out.1 (by omega))
      generalize UInt8.ofNat m = c at hcn HN
      go_wp2_with (at_builtin; refine wp_push HO.out c (by omega) hB (by omega) rfl rfl rfl rfl rfl ?_; intro g cap W hmine hb)
      go_ret
      refine ⟨g, cap, ?_, ?_, HK.out.2.2.trans hb⟩
      · rw [← HN.out]; simp
      · rw [← HN.out]; exact hmine
end Go.Proofs.Ytoojflhafmnggaa

/- The walk of the library's ParseUint at base sixteen and 64 bits: at every text it answers; at sixteen digits it answers their number. -/
import Derived.Test.YtgcgaaoncfgckabDoorWBits
import Derived.Lib.ConvBytes
import Derived.Lib.Walk
import Derived.Lib.AtoiAllMem
import Derived.Laws.Strings3
import Derived.Laws.Closers25
import Derived.Laws.Closers25b
import Derived.BigCall
import Derived.BigGuard
namespace Go.Proofs.YtgcgaaoncfgckabDoor
open Go.RowKit

namespace Hex
theorem hexd_small (n : Nat) (h : n < 10) : (hexd n).toNat = 48 + n := by
  have h1 : ∀ m : Fin 10, (hexd m.val).toNat = 48 + m.val := by decide
  exact h1 ⟨n, h⟩
theorem hexd_great (n : Nat) (h : 10 ≤ n) (h2 : n < 16) : (hexd n).toNat = 87 + n := by
  have h1 : ∀ m : Fin 16, 10 ≤ m.val → (hexd m.val).toNat = 87 + m.val := by decide
  exact h1 ⟨n, h2⟩ h

/-- what has been gathered ahead of place k, if the bytes are sixteen digits -/
def Got (bs : List UInt8) (k acc : Nat) : Prop := ∀ u, u < 18446744073709551616 → bs = digits u 16 → acc = u / 16 ^ (16 - k)

theorem Got.start (bs : List UInt8) : Got bs 0 0 := fun u hu _ => by
  have e : (16 : Nat) ^ (16 - 0) = 18446744073709551616 := by decide
  rw [e]; omega

theorem byte_at {bs : List UInt8} {u k : Nat} (h : bs = digits u 16) (hk : k < bs.length) : bs[k] = hexd (u / 16 ^ (15 - k) % 16) ∧ k < 16 := by
  subst h
  have hk' : k < 16 := by rw [digits_length] at hk; exact hk
  rw [digits_get]
  exact ⟨rfl, hk'⟩

theorem div_step (u k : Nat) (hk : k < 16) : u / 16 ^ (16 - (k + 1)) = u / 16 ^ (16 - k) * 16 + u / 16 ^ (15 - k) % 16 := by
  have e : 16 - k = (15 - k) + 1 := by omega
  rw [e, Nat.pow_succ, ← Nat.div_div_eq_div_mul, show 16 - (k + 1) = 15 - k by omega]
  omega

theorem div_small (u k : Nat) (hu : u < 18446744073709551616) (hk : k < 16) : u / 16 ^ (16 - k) < 1152921504606846976 := by
  have h1 : (16 : Nat) ^ 1 ≤ 16 ^ (16 - k) := Nat.pow_le_pow_right (by omega) (by omega)
  have h2 : u / 16 ^ (16 - k) ≤ u / 16 ^ 1 := Nat.div_le_div_left h1 (by decide)
  have e : (16 : Nat) ^ 1 = 16 := by decide
  rw [e] at h2
  omega
end Hex

theorem lower_any (c : Int) (w : World) :
    Calls Tryd.prog 47 #[.int .u8 c] w fun e w' => e = .returned (.int .u8 (bits .or .u8 c 32)) ∧ w' = w := by
  go_enter Tryd.func47, Tryd.ntmps47
  go_wp2
  go_ret
  exact ⟨rfl, rfl⟩

/-- an error that the inner function may name, or none -/
def ErrIn (v : Value) : Prop := v = .nilIface ∨ v = .iface 74 (.int .i64 1) ∨ v = .iface 74 (.int .i64 2)

theorem or32 : ∀ c : Fin 256, 97 ≤ c.val → c.val ≤ 122 → bits .or .u8 (c.val : Int) 32 = (c.val : Int) := by decide +kernel
theorem or32_at (c : UInt8) (h1 : 97 ≤ c.toNat) (h2 : c.toNat ≤ 122) : bits .or .u8 (c.toNat : Int) 32 = (c.toNat : Int) := or32 ⟨c.toNat, c.toNat_lt⟩ h1 h2

theorem or95 : bits .or .u8 95 32 = 127 := by kernel_rfl

theorem digits_ne_nil (u : Nat) : Hex.digits u 16 ≠ [] := by
  intro h
  have := congrArg List.length h
  rw [Hex.digits_length] at this
  simp at this

set_option maxRecDepth 100000 in
set_option maxHeartbeats 1000000 in
theorem inParseUint_empty (w : World) :
    Calls Tryd.prog 32 #[.string ⟨#[]⟩, .int .i64 16, .int .i64 64] w fun e w' => e = .returned (.tuple #[.int .u64 0, .iface 74 (.int .i64 2)]) ∧ w' = w := by
  go_enter Tryd.func32, Tryd.ntmps32
  go_wp2
  go_ret2
  exact ⟨rfl, rfl⟩

set_option maxRecDepth 100000 in
set_option maxHeartbeats 32000000 in
theorem inParseUint_16 (t : ByteArray) (hne : t.size ≠ 0) (hmax : t.size ≤ 9223372036854775806) (w : World) :
    Calls Tryd.prog 32 #[.string t, .int .i64 16, .int .i64 64] w fun e w' =>
      (∃ (v : Int) (er : Value), e = .returned (.tuple #[.int .u64 v, er]) ∧ 0 ≤ v ∧ v < 18446744073709551616 ∧ ErrIn er ∧ (∀ u : Nat, u < 18446744073709551616 → t.data.toList = Hex.digits u 16 → v = (u : Int) ∧ er = .nilIface)) ∧ w' = Lib.bytesWorld w 5 t := by
  have hemp : t.toList.isEmpty = false := by
    rw [← decide_eq_emptyBytes]
    exact decide_eq_false (fun h => hne (by rw [h]; rfl))
  have hcv := Lib.run_convert_string_bytes (P := Tryd.prog) w 9 59 5 t (u := .string) Tryd.underlying9 Tryd.underlying59 Tryd.underlying5
  have hB : ∀ j, j < t.size → (Lib.bytesWorld w 5 t).cell? ⟨w.heap.size, j, none⟩ = some (.int .u8 (t.data.toList.getD j 0).toNat) := fun j hj => Lib.bytesWorld_cell w 5 t j hj
  obtain ⟨W1, hW1⟩ : ∃ W1, W1 = Lib.bytesWorld w 5 t := ⟨_, rfl⟩
  rw [← hW1] at hcv hB ⊢
  clear hW1
  obtain ⟨bs, hL⟩ : ∃ bs, bs = t.data.toList := ⟨_, rfl⟩
  have hLn : bs.length = t.size := by rw [hL, Lib.size_eq]
  rw [← hL] at hB ⊢
  clear hL
  have hmv : IntKind.u64.wrap (IntKind.u64.wrap 18446744073709551616 - 1) = 18446744073709551615 := by
    rw [IntKind.wrap_u64, IntKind.wrap_u64]
    decide
  go_enter Tryd.func32, Tryd.ntmps32
  go_wp2
  go_loop [12, 13, 101] (fun vu vn vi => ∃ (k acc : Nat) (a : Int), vu = .bool false ∧ vn = .int .u64 a ∧ vi = .int .i64 k ∧ k ≤ t.size ∧ Hid (a = (acc : Int) ∧ acc < 18446744073709551616 ∧ Hex.Got bs k acc))
    (fun _ _ vi => t.size - (intOf vi).toNat)
  case atStart => exact ⟨0, 0, 0, rfl, rfl, rfl, by omega, rfl, by omega, Hex.Got.start bs⟩
  case round =>
    obtain ⟨k, acc, a, rfl, rfl, rfl, hk, hh⟩ := hrel
    obtain ⟨ha, hacc, hgot⟩ := hh.out
    clear hh
    have a0 : 0 ≤ a := by omega
    have a1 : a < 18446744073709551616 := by omega
    by_cases hkn : k < t.size
    · have hc := hB k hkn
      have hget : bs.getD k 0 = bs[k]'(by omega) := by simp [List.getD, List.getElem?_eq_getElem (show k < bs.length by omega)]
      have hbyte : ∀ u, bs = Hex.digits u 16 → bs[k]'(by omega) = Hex.hexd (u / 16 ^ (15 - k) % 16) ∧ k < 16 := fun u hu => Hex.byte_at hu (by omega)
      rw [hget] at hc
      generalize bs[k]'(by omega) = c at hc hbyte
      have hc256 : c.toNat < 256 := c.toNat_lt
      clear hB hget
      by_cases hdig : 48 ≤ c.toNat ∧ c.toNat ≤ 57
      · obtain ⟨hd0, hd1⟩ := hdig
        by_cases hcut : 1152921504606846976 ≤ acc
        · have icut : 1152921504606846976 ≤ a := by omega
          have HX : Hid (∀ u : Nat, u < 18446744073709551616 → bs = Hex.digits u 16 → False) := fun u hu hb => by
            have e1 := hgot u hu hb
            have e2 := Hex.div_small u k hu (hbyte u hb).2
            omega
          clear hcut hacc ha hgot hbyte
          go_wp2
          go_ret2
          exact ⟨⟨_, _, rfl, by omega, by omega, .inr (.inl rfl), fun u hu hb => (HX.out u hu hb).elim⟩, rfl⟩
        · have HN : Hid (a * 16 + ((c.toNat : Int) - 48) = ((acc * 16 + (c.toNat - 48) : Nat) : Int) ∧ acc * 16 + (c.toNat - 48) < 18446744073709551616 ∧ Hex.Got bs (k + 1) (acc * 16 + (c.toNat - 48))) := by
            refine ⟨by omega, by omega, fun u hu hb => ?_⟩
            obtain ⟨e1, e2⟩ := hbyte u hb
            have e3 := hgot u hu hb
            rw [Hex.div_step u k e2, ← e3]
            have e4 : u / 16 ^ (15 - k) % 16 < 16 := Nat.mod_lt _ (by omega)
            generalize u / 16 ^ (15 - k) % 16 = n at e1 e4
            by_cases e5 : n < 10
            · have := Hex.hexd_small n e5
              rw [← e1] at this; omega
            · have := Hex.hexd_great n (by omega) e4
              rw [← e1] at this; omega
          have icut : a < 1152921504606846976 := by omega
          have iov : a * 16 + ((c.toNat : Int) - 48) < 18446744073709551616 := by omega
          clear hcut hacc ha hgot hbyte
          go_wp2
          refine ⟨⟨k + 1, acc * 16 + (c.toNat - 48), a * 16 + ((c.toNat : Int) - 48), rfl, (by first | rfl | (congr 1; omega)), (by first | rfl | (congr 1; omega)), by omega, HN⟩, by simp [intOf]; omega⟩
      · -- which digit it would be, were the bytes sixteen digits
        have hlet : ∀ u, bs = Hex.digits u 16 → ∃ n, n = u / 16 ^ (15 - k) % 16 ∧ c.toNat = 87 + n ∧ 10 ≤ n ∧ n < 16 ∧ k < 16 := fun u hb => by
          obtain ⟨e1, e2⟩ := hbyte u hb
          have e4 : u / 16 ^ (15 - k) % 16 < 16 := Nat.mod_lt _ (by omega)
          refine ⟨_, rfl, ?_⟩
          generalize u / 16 ^ (15 - k) % 16 = n at e1 e4
          by_cases e5 : n < 10
          · have := Hex.hexd_small n e5
            rw [← e1] at this; omega
          · have := Hex.hexd_great n (by omega) e4
            rw [← e1] at this; exact ⟨this, by omega, e4, e2⟩
        clear hbyte
        by_cases h95 : c.toNat = 95
        · have HX : Hid (∀ u : Nat, u < 18446744073709551616 → bs = Hex.digits u 16 → False) := fun u hu hb => by
            obtain ⟨n, _, e1, e2, e3, _⟩ := hlet u hb
            omega
          rw [h95] at hc
          have h127 := or95
          clear hlet hgot hacc ha hdig hc256 h95
          go_wp2_with (go_at_call 47; refine (lower_any _ _).mono ?_; rintro e w' ⟨rfl, rfl⟩)
          go_ret2
          exact ⟨⟨_, _, rfl, by omega, by omega, .inr (.inr rfl), fun u hu hb => (HX.out u hu hb).elim⟩, rfl⟩
        · have b95 : ((c.toNat : Int) == 95) = false := by rw [beq_eq_false_iff_ne]; omega
          have hv0 := bits_lo_u8 .or (c.toNat : Int) 32
          have hv1 := bits_hi_u8 .or (c.toNat : Int) 32
          have hvl : 97 ≤ c.toNat → c.toNat ≤ 122 → bits .or .u8 (c.toNat : Int) 32 = (c.toNat : Int) := or32_at c
          have IL := Lib.hid (fun w => lower_any (c.toNat : Int) w)
          generalize bits .or .u8 (c.toNat : Int) 32 = l at hv0 hv1 hvl IL
          by_cases hlh : 97 ≤ l ∧ l ≤ 102
          · obtain ⟨hl0, hl1⟩ := hlh
            by_cases hcut : 1152921504606846976 ≤ acc
            · have icut : 1152921504606846976 ≤ a := by omega
              have HX : Hid (∀ u : Nat, u < 18446744073709551616 → bs = Hex.digits u 16 → False) := fun u hu hb => by
                obtain ⟨n, _, e1, e2, e3, e4⟩ := hlet u hb
                have e5 := hgot u hu hb
                have e6 := Hex.div_small u k hu e4
                omega
              clear hcut hacc ha hgot hlet hvl hv0 hv1 h95
              go_wp2_with (go_at_call 47; refine (IL.out _).mono ?_; rintro e w' ⟨rfl, rfl⟩)
              all_goals go_ret2
              all_goals exact ⟨⟨_, _, rfl, by omega, by omega, .inr (.inl rfl), fun u hu hb => (HX.out u hu hb).elim⟩, rfl⟩
            · have HN : Hid (a * 16 + (l - 97 + 10) = ((acc * 16 + (l.toNat - 87) : Nat) : Int) ∧ acc * 16 + (l.toNat - 87) < 18446744073709551616 ∧ Hex.Got bs (k + 1) (acc * 16 + (l.toNat - 87))) := by
                refine ⟨by omega, by omega, fun u hu hb => ?_⟩
                obtain ⟨n, e0, e1, e2, e3, e4⟩ := hlet u hb
                have e5 := hgot u hu hb
                have e6 := hvl (by omega) (by omega)
                rw [Hex.div_step u k e4, ← e5, ← e0]
                omega
              have icut : a < 1152921504606846976 := by omega
              have iov : a * 16 + (l - 97 + 10) < 18446744073709551616 := by omega
              clear hcut hacc ha hgot hlet hvl hv0 hv1 h95
              go_wp2_with (go_at_call 47; refine (IL.out _).mono ?_; rintro e w' ⟨rfl, rfl⟩)
              all_goals refine ⟨⟨k + 1, acc * 16 + (l.toNat - 87), a * 16 + (l - 97 + 10), rfl, (by first | rfl | (congr 1; omega)), (by first | rfl | (congr 1; omega)), by omega, HN⟩, by simp [intOf]; omega⟩
          · have HX : Hid (∀ u : Nat, u < 18446744073709551616 → bs = Hex.digits u 16 → False) := fun u hu hb => by
              obtain ⟨n, _, e1, e2, e3, _⟩ := hlet u hb
              have e6 := hvl (by omega) (by omega)
              omega
            clear hlet hgot hacc ha hvl h95
            go_wp2_with (go_at_call 47; refine (IL.out _).mono ?_; rintro e w' ⟨rfl, rfl⟩)
            all_goals go_ret2
            all_goals exact ⟨⟨_, _, rfl, by omega, by omega, .inr (.inr rfl), fun u hu hb => (HX.out u hu hb).elim⟩, rfl⟩
    · have hkk : k = t.size := by omega
      subst hkk
      have HX : Hid (∀ u : Nat, u < 18446744073709551616 → bs = Hex.digits u 16 → (acc : Int) = (u : Int)) := fun u hu hb => by
        have e1 := hgot u hu hb
        have e2 : t.size = 16 := by rw [← hLn, hb, Hex.digits_length]
        rw [e2] at e1
        simp at e1
        omega
      subst ha
      clear hacc hgot hB
      go_wp2
      go_ret2
      exact ⟨⟨_, _, rfl, by omega, by omega, .inl rfl, fun u hu hb => ⟨HX.out u hu hb, rfl⟩⟩, rfl⟩
end Go.Proofs.YtgcgaaoncfgckabDoor

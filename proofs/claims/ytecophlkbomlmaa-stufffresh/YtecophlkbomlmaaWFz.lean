/- The walk of package stuff's firstZero: the place of the first zero byte, or of the end. -/
import Derived.Test.YtecophlkbomlmaaStuffC
import Derived.Deep.RegionHeld3
namespace Go.Proofs.Ytecophlkbomlmaa
open Go.RowKit

/-- k is the place of the first zero byte, or of the end -/
def FirstZ (l : List UInt8) (k : Nat) : Prop := k ≤ l.length ∧ (∀ j (h : j < l.length), j < k → l[j] ≠ 0) ∧ ∀ h : k < l.length, l[k] = 0

set_option maxHeartbeats 1000000 in
theorem firstZero_in (b o c : Nat) (l : List UInt8) (hl : l.length ≤ 150000000000000) (w : World) (hc : Cells w b o l) :
    Calls Try.prog 16 #[.slice (some ⟨b, o, none⟩) l.length c] w fun e w' => ∃ k : Nat, e = .returned (.int .i64 k) ∧ FirstZ l k ∧ w' = w := by
  have HC := Lib.hid hc
  clear hc
  go_enter Try.func16, Try.ntmps16
  go_wp2
  go_loop [3, 4, 7] (fun _ _ vi => ∃ i : Nat, i ≤ l.length ∧ vi = .int .i64 i ∧ Hid (∀ j (h : j < l.length), j < i → l[j] ≠ 0)) (fun _ _ vi => l.length - (intOf vi).toNat)
  case atStart => exact ⟨0, by omega, rfl, fun j _ hj => by omega⟩
  case round =>
    obtain ⟨i, hi, rfl, HZ⟩ := hrel
    by_cases hlt : i < l.length
    · have hc1 := HC.out i hlt
      have hlt' : (i : Int) < (l.length : Int) := by omega
      by_cases h0 : l[i] = 0
      · have hF : Hid (FirstZ l i) := ⟨by omega, HZ.out, fun _ => h0⟩
        have hb : ((l[i].toNat : Int) == 0) = true := by rw [h0]; rfl
        clear HZ h0
        go_wp2
        go_ret
        exact ⟨i, rfl, hF.out, rfl⟩
      · have HZ2 : Hid (∀ j (h : j < l.length), j < i + 1 → l[j] ≠ 0) := fun j h hj => by
          rcases Nat.lt_succ_iff_lt_or_eq.1 hj with h1 | h1
          · exact HZ.out j h h1
          · subst h1; exact h0
        have hb : ((l[i].toNat : Int) == 0) = false := by
          rw [beq_eq_false_iff_ne]
          intro hc
          exact h0 (UInt8.toNat_inj.1 (by have : l[i].toNat = 0 := by omega
                                          rw [this]; rfl))
        clear HZ h0
        go_wp2
        go_round
        case rel => exact ⟨i + 1, by omega, by go_num, HZ2⟩
        case measure => simp [intOf]; omega
    · have hii : i = l.length := by omega
      subst hii
      have hF : Hid (FirstZ l l.length) := ⟨Nat.le_refl _, HZ.out, fun h => by omega⟩
      clear HZ
      go_wp2
      go_ret
      exact ⟨_, rfl, hF.out, rfl⟩

set_option maxHeartbeats 1000000 in
theorem firstZero_none (p : Option Addr) (c : Nat) (w : World) :
    Calls Try.prog 16 #[.slice p 0 c] w fun e w' => e = .returned (.int .i64 0) ∧ w' = w := by
  go_enter Try.func16, Try.ntmps16
  go_wp2
  go_loop [3, 4, 7] (fun _ _ vi => vi = .int .i64 0) (fun _ _ _ => 0)
  case atStart => exact rfl
  case round =>
    subst hrel
    go_wp2
    go_ret
    exact ⟨rfl, rfl⟩

theorem firstZero_ok (p : Option Addr) (c : Nat) (l : List UInt8) (hl : l.length ≤ 150000000000000) (w : World) (h : At w p l) :
    Calls Try.prog 16 #[.slice p l.length c] w fun e w' => ∃ k : Nat, e = .returned (.int .i64 k) ∧ FirstZ l k ∧ w' = w := by
  rcases h with rfl | ⟨b, o, rfl, _, hc⟩
  · refine (firstZero_none p c w).mono ?_
    rintro e w' ⟨rfl, rfl⟩
    exact ⟨0, rfl, ⟨Nat.le_refl _, fun j h => by simp at h, fun h => by simp at h⟩, rfl⟩
  · exact firstZero_in b o c l hl w hc
end Go.Proofs.Ytecophlkbomlmaa

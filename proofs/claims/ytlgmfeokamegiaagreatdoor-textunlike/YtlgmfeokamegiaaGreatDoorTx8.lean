/- Plain: floats' texts are what is asked of them; a text's length. -/
import Derived.Test.YtlgmfeokamegiaaGreatDoorB05
import Derived.Test.YtlgmfeokamegiaaGreatDoorB15
import Derived.Test.YtlgmfeokamegiaaGreatDoorB03
import Derived.Lib.ParseIntBTie
import Derived.Lib.ItoaLen
namespace Go.Proofs.YtlgmfeokamegiaaGreatDoor
open Tx

theorem hexd_fset : ∀ n : Fin 16, fset (Hex.hexd n.val) = true := by decide
theorem digits_fset (u : Nat) : ∀ k, ∀ c ∈ Hex.digits u k, fset c = true
  | 0, c, h => by simp [Hex.digits] at h
  | k + 1, c, h => by
    rw [Hex.digits, List.mem_cons] at h
    rcases h with rfl | h
    · exact hexd_fset ⟨u / 16 ^ k % 16, Nat.mod_lt _ (by decide)⟩
    · exact digits_fset u k c h
theorem iset_fset {c : UInt8} (h : iset c = true) : fset c = true := by
  unfold iset at h
  unfold fset
  rw [Bool.or_eq_true] at h
  rcases h with h | h
  · rw [h]; simp
  · rw [h]; simp
theorem text_set (z : Nat) : ∀ c ∈ text z, fset c = true := by
  rcases text_cases z with ⟨h, -⟩ | ⟨h, -⟩ | ⟨h, -⟩ | ⟨h, -⟩ | ⟨h, -, -⟩ | ⟨h, -⟩
  · rw [h]; decide
  · rw [h]; decide
  · rw [h]; decide
  · rw [h]; decide
  · rw [h]; exact fun c hc => iset_fset (itoa_set _ c hc)
  · rw [h]
    intro c hc
    rw [List.mem_cons] at hc
    rcases hc with rfl | hc
    · decide
    · exact digits_fset z 16 c hc
/-- how a float's text is read -/
structure RfOk (rf : Bs → Option Nat) : Prop where
  yes : ∀ z, z < 18446744073709551616 → rf (text z) = some (fixB z)
  no : ∀ l, (∀ z, z < 18446744073709551616 → l ≠ text z) → rf l = none
theorem rf_ex : ∃ rf, RfOk rf := by
  classical
  refine ⟨fun l => if h : ∃ z, z < 18446744073709551616 ∧ l = text z then some (fixB h.choose) else none, fun z hz => ?_, fun l hl => ?_⟩
  · have h : ∃ y, y < 18446744073709551616 ∧ text z = text y := ⟨z, hz, rfl⟩
    show (if h : ∃ y, y < 18446744073709551616 ∧ text z = text y then some (fixB h.choose) else none) = _
    rw [dif_pos h]
    have := h.choose_spec
    rw [text_inj hz this.1 this.2]
  · show (if h : ∃ y, y < 18446744073709551616 ∧ l = text y then some (fixB h.choose) else none) = _
    rw [dif_neg (fun ⟨z, hz, he⟩ => hl z hz he)]
theorem fixB_small {x : Nat} (h : x < 18446744073709551616) : fixB x < 18446744073709551616 := by
  cases hn : nanB x
  · rw [fix_f hn]; exact h
  · rw [fix_t hn]; decide
theorem rf_fok {rf : Bs → Option Nat} (h : RfOk rf) : FOk text rf := by
  refine ⟨h.yes, fun l b hl => ?_, text_set, text_fix⟩
  by_cases hz : ∃ z, z < 18446744073709551616 ∧ l = text z
  · obtain ⟨z, hz, rfl⟩ := hz
    rw [h.yes z hz] at hl
    injection hl with hl
    subst hl
    exact ⟨text_fix z, fixB_idem z, fixB_small hz⟩
  · rw [h.no l (fun z hz' he => hz ⟨z, hz', he⟩)] at hl
    cases hl
/-- ParseInt of an Int's text -/
theorem parseB_itoa {n : Int} (h : -9223372036854775808 ≤ n ∧ n ≤ 9223372036854775807) : Lib.parseIntB 64 (Lib.itoa n) = .ok n := by
  unfold Lib.itoa
  by_cases h0 : n < 0
  · rw [if_pos h0, Lib.parseIntB_minus, Txt.parseB_digits _ (by omega)]
    show (if 9223372036854775808 < n.natAbs then Lib.NumEnd.range else Lib.NumEnd.ok (-(n.natAbs : Int))) = _
    rw [if_neg (by omega), show -(n.natAbs : Int) = n by omega]
  · rw [if_neg h0]
    obtain ⟨c, r, he, h1, h2⟩ := Txt.dec_cons n.toNat
    rw [he, Lib.parseIntB_plain 64 c r (by omega) (by omega), ← he, Txt.parseB_digits _ (by omega)]
    show (if 9223372036854775808 ≤ n.toNat then Lib.NumEnd.range else Lib.NumEnd.ok (n.toNat : Int)) = _
    rw [if_neg (by omega), show (n.toNat : Int) = n by omega]
theorem num_of_parse {l : Bs} {n : Int} (h : Lib.parseIntB 64 l = .ok n) : num l = if Lib.itoa n = l then some n else none := by
  have hb := Lib.parseIntB_bounds h
  have hr : -9223372036854775808 ≤ n ∧ n ≤ 9223372036854775807 := by
    have e : ((2 ^ (64 - 1) : Nat) : Int) = 9223372036854775808 := by decide
    rw [e] at hb
    omega
  split
  · next he => rw [← he]; exact num_itoa hr
  · next he =>
    cases hn : num l with
    | none => rfl
    | some m =>
      obtain ⟨h1, h2⟩ := num_some hn
      have := parseB_itoa h2
      rw [h1, h] at this
      injection this with this
      subst this
      exact absurd h1 he
theorem num_none {l : Bs} (h : ∀ n, Lib.parseIntB 64 l ≠ .ok n) : num l = none := by
  cases hn : num l with
  | none => rfl
  | some m =>
    obtain ⟨h1, h2⟩ := num_some hn
    have := parseB_itoa h2
    rw [h1] at this
    exact absurd this (h m)
end Go.Proofs.YtlgmfeokamegiaaGreatDoor

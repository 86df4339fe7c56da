/- The landed text: kindOf, typeAt. -/
import Derived.Test.YtpjcmahlnnglcaaGreatDoorK21C
import Derived.Test.YtpjcmahlnnglcaaGreatDoorB04
namespace Go.Proofs.YtpjcmahlnnglcaaGreatDoor
open Go.RowKit

/-- the words as they lie -/
def kw (j : Nat) : Tx.Bs := Tx.word (j : Int)
theorem kw_at {j : Nat} (h : j < 8) : kwC[j]? = some (.string ⟨(kw j).toArray⟩) := by
  have h8 : j = 0 ∨ j = 1 ∨ j = 2 ∨ j = 3 ∨ j = 4 ∨ j = 5 ∨ j = 6 ∨ j = 7 := by omega
  rcases h8 with rfl | rfl | rfl | rfl | rfl | rfl | rfl | rfl <;> rfl
theorem kw_kind {j : Nat} (h : j < 8) : Tx.kindOf (kw j) = (j : Int) := by
  have h8 : j = 0 ∨ j = 1 ∨ j = 2 ∨ j = 3 ∨ j = 4 ∨ j = 5 ∨ j = 6 ∨ j = 7 := by omega
  rcases h8 with rfl | rfl | rfl | rfl | rfl | rfl | rfl | rfl <;> decide
theorem kw_none {wd : Tx.Bs} (h : ∀ i, i < 8 → kw i ≠ wd) : Tx.kindOf wd = 0 := by
  by_cases hk : Tx.kindOf wd = 0
  · exact hk
  · obtain ⟨h1, h2, h3⟩ := Tx.word_kind hk
    refine absurd h1.symm ?_
    have := h (Tx.kindOf wd).toNat (by omega)
    unfold kw at this
    rwa [Int.toNat_of_nonneg (by omega)] at this
section
variable (w : World)
theorem idx0 : (Instr.index 93 (.agg #[.string ⟨#[]⟩, .string ⟨#[98, 111, 111, 108]⟩, .string ⟨#[105, 110, 116]⟩, .string ⟨#[102, 108, 111, 97, 116]⟩, .string ⟨#[116, 101, 120, 116]⟩, .string ⟨#[98, 121, 116, 101, 115]⟩, .string ⟨#[111, 112, 116]⟩, .string ⟨#[108, 105, 115, 116]⟩]) (.int .i64 ((0 : Nat) : Int))).run Tryz.prog w = .ok (.string ⟨(kw 0).toArray⟩) w := by kernel_rfl
theorem idx1 : (Instr.index 93 (.agg #[.string ⟨#[]⟩, .string ⟨#[98, 111, 111, 108]⟩, .string ⟨#[105, 110, 116]⟩, .string ⟨#[102, 108, 111, 97, 116]⟩, .string ⟨#[116, 101, 120, 116]⟩, .string ⟨#[98, 121, 116, 101, 115]⟩, .string ⟨#[111, 112, 116]⟩, .string ⟨#[108, 105, 115, 116]⟩]) (.int .i64 ((1 : Nat) : Int))).run Tryz.prog w = .ok (.string ⟨(kw 1).toArray⟩) w := by kernel_rfl
theorem idx2 : (Instr.index 93 (.agg #[.string ⟨#[]⟩, .string ⟨#[98, 111, 111, 108]⟩, .string ⟨#[105, 110, 116]⟩, .string ⟨#[102, 108, 111, 97, 116]⟩, .string ⟨#[116, 101, 120, 116]⟩, .string ⟨#[98, 121, 116, 101, 115]⟩, .string ⟨#[111, 112, 116]⟩, .string ⟨#[108, 105, 115, 116]⟩]) (.int .i64 ((2 : Nat) : Int))).run Tryz.prog w = .ok (.string ⟨(kw 2).toArray⟩) w := by kernel_rfl
theorem idx3 : (Instr.index 93 (.agg #[.string ⟨#[]⟩, .string ⟨#[98, 111, 111, 108]⟩, .string ⟨#[105, 110, 116]⟩, .string ⟨#[102, 108, 111, 97, 116]⟩, .string ⟨#[116, 101, 120, 116]⟩, .string ⟨#[98, 121, 116, 101, 115]⟩, .string ⟨#[111, 112, 116]⟩, .string ⟨#[108, 105, 115, 116]⟩]) (.int .i64 ((3 : Nat) : Int))).run Tryz.prog w = .ok (.string ⟨(kw 3).toArray⟩) w := by kernel_rfl
theorem idx4 : (Instr.index 93 (.agg #[.string ⟨#[]⟩, .string ⟨#[98, 111, 111, 108]⟩, .string ⟨#[105, 110, 116]⟩, .string ⟨#[102, 108, 111, 97, 116]⟩, .string ⟨#[116, 101, 120, 116]⟩, .string ⟨#[98, 121, 116, 101, 115]⟩, .string ⟨#[111, 112, 116]⟩, .string ⟨#[108, 105, 115, 116]⟩]) (.int .i64 ((4 : Nat) : Int))).run Tryz.prog w = .ok (.string ⟨(kw 4).toArray⟩) w := by kernel_rfl
theorem idx5 : (Instr.index 93 (.agg #[.string ⟨#[]⟩, .string ⟨#[98, 111, 111, 108]⟩, .string ⟨#[105, 110, 116]⟩, .string ⟨#[102, 108, 111, 97, 116]⟩, .string ⟨#[116, 101, 120, 116]⟩, .string ⟨#[98, 121, 116, 101, 115]⟩, .string ⟨#[111, 112, 116]⟩, .string ⟨#[108, 105, 115, 116]⟩]) (.int .i64 ((5 : Nat) : Int))).run Tryz.prog w = .ok (.string ⟨(kw 5).toArray⟩) w := by kernel_rfl
theorem idx6 : (Instr.index 93 (.agg #[.string ⟨#[]⟩, .string ⟨#[98, 111, 111, 108]⟩, .string ⟨#[105, 110, 116]⟩, .string ⟨#[102, 108, 111, 97, 116]⟩, .string ⟨#[116, 101, 120, 116]⟩, .string ⟨#[98, 121, 116, 101, 115]⟩, .string ⟨#[111, 112, 116]⟩, .string ⟨#[108, 105, 115, 116]⟩]) (.int .i64 ((6 : Nat) : Int))).run Tryz.prog w = .ok (.string ⟨(kw 6).toArray⟩) w := by kernel_rfl
theorem idx7 : (Instr.index 93 (.agg #[.string ⟨#[]⟩, .string ⟨#[98, 111, 111, 108]⟩, .string ⟨#[105, 110, 116]⟩, .string ⟨#[102, 108, 111, 97, 116]⟩, .string ⟨#[116, 101, 120, 116]⟩, .string ⟨#[98, 121, 116, 101, 115]⟩, .string ⟨#[111, 112, 116]⟩, .string ⟨#[108, 105, 115, 116]⟩]) (.int .i64 ((7 : Nat) : Int))).run Tryz.prog w = .ok (.string ⟨(kw 7).toArray⟩) w := by kernel_rfl
end
theorem idxKw (j : Nat) (h : j < 8) (w : World) : (Instr.index 93 (.agg #[.string ⟨#[]⟩, .string ⟨#[98, 111, 111, 108]⟩, .string ⟨#[105, 110, 116]⟩, .string ⟨#[102, 108, 111, 97, 116]⟩, .string ⟨#[116, 101, 120, 116]⟩, .string ⟨#[98, 121, 116, 101, 115]⟩, .string ⟨#[111, 112, 116]⟩, .string ⟨#[108, 105, 115, 116]⟩]) (.int .i64 (j : Nat))).run Tryz.prog w = .ok (.string ⟨(kw j).toArray⟩) w := by
  have h8 : j = 0 ∨ j = 1 ∨ j = 2 ∨ j = 3 ∨ j = 4 ∨ j = 5 ∨ j = 6 ∨ j = 7 := by omega
  rcases h8 with rfl | rfl | rfl | rfl | rfl | rfl | rfl | rfl
  · exact idx0 w
  · exact idx1 w
  · exact idx2 w
  · exact idx3 w
  · exact idx4 w
  · exact idx5 w
  · exact idx6 w
  · exact idx7 w
theorem Hv.kwc {w : World} (h : Hv w) (i : Nat) : w.cell? ⟨0, i, none⟩ = kwC[i]? := World.var?_cell gKw h.kw i

set_option maxRecDepth 100000 in
set_option maxHeartbeats 1000000 in
theorem kindOfK (wd : Tx.Bs) (w : World) (h : Hv w) : Calls Tryz.prog 122 #[.string ⟨wd.toArray⟩] w fun e w' => e = .returned (.int .i64 (Tx.kindOf wd)) ∧ w' = w := by
  have c0 := h.kwc 0
  have c1 := h.kwc 1
  have c2 := h.kwc 2
  have c3 := h.kwc 3
  have c4 := h.kwc 4
  have c5 := h.kwc 5
  have c6 := h.kwc 6
  have c7 := h.kwc 7
  simp only [kwC, List.getElem?_toArray, List.getElem?_cons_zero, List.getElem?_cons_succ] at c0 c1 c2 c3 c4 c5 c6 c7
  obtain ⟨K, hK⟩ : ∃ K, K = Tx.kindOf wd := ⟨_, rfl⟩
  rw [← hK]
  have HK := Lib.hid hK
  clear h hK
  go_enter Tryz.func122, Tryz.ntmps122
  go_wp2_with fail
  go_loopw [6] (fun v6 wr => wr = w ∧ ∃ j : Nat, j ≤ 8 ∧ v6 = .int .i64 (j : Nat) ∧ Hid (∀ i, i < j → kw i ≠ wd)) (fun v6 _ => 8 - (intOf v6).toNat)
  case atStart => exact ⟨rfl, 0, Nat.zero_le _, rfl, fun i hi => by omega⟩
  case round =>
    obtain ⟨hwr, j, hj, rfl, HU⟩ := hrel
    subst hwr
    have e7 : (ByteArray.mk wd.toArray).toList = wd := by rw [ByteArray.toList_eq]
    by_cases hlt : j < 8
    · have f1 : (j : Int) < 8 := by omega
      have hix := idxKw j hlt wr
      obtain ⟨X, hX⟩ : ∃ X, X = kw j := ⟨_, rfl⟩
      rw [← hX] at hix
      have e8 : (ByteArray.mk X.toArray).toList = X := by rw [ByteArray.toList_eq]
      by_cases hx : X = wd
      · have HKj : Hid (K = (j : Int)) := by show _ = _; rw [HK.out, ← hx, hX]; exact kw_kind hlt
        have e6 : (X == wd) = true := by rw [beq_iff_eq]; exact hx
        clear HU hX hx
        go_wp2
        go_ret
        exact ⟨by rw [HKj.out]; rfl, rfl⟩
      · have HJ : Hid (∀ i, i < j + 1 → kw i ≠ wd) := fun i hi => by
          by_cases hij : i = j
          · rw [hij, ← hX]; exact hx
          · exact HU.out i (by omega)
        have e6 : (X == wd) = false := by rw [beq_eq_false_iff_ne]; exact hx
        clear HU hX hx
        go_wp2
        go_roundw
        case rel => exact ⟨trivial, j + 1, by omega, by go_num, HJ⟩
        case measure => simp [intOf]; omega
    · obtain rfl : j = 8 := by omega
      have HK0 : Hid (K = 0) := by show _ = _; rw [HK.out]; exact kw_none HU.out
      clear HU
      go_wp2
      go_ret
      exact ⟨by rw [HK0.out]; rfl, rfl⟩
end Go.Proofs.YtpjcmahlnnglcaaGreatDoor

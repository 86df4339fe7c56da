/- The walks of the document's own digits: wide and decimal. -/
import Derived.Test.YtgcgaaoncfgckaaDoorWBits
namespace Go.Proofs.YtgcgaaoncfgckaaDoor
open Go.RowKit

/-- the document's digits -/
def dig16 : ByteArray := ⟨#[48, 49, 50, 51, 52, 53, 54, 55, 56, 57, 97, 98, 99, 100, 101, 102]⟩

theorem dig_all : ∀ n : Fin 16, dig16.extract n.val (n.val + 1) = ⟨#[Hex.hexd n.val]⟩ := by decide +kernel

theorem dig_slice (n : Nat) (h : n < 16) (w : World) :
    (Instr.slice 9 (.string ⟨#[48, 49, 50, 51, 52, 53, 54, 55, 56, 57, 97, 98, 99, 100, 101, 102]⟩) (some (.int .i64 (n : Int))) (some (.int .i64 ((n : Int) + 1))) none).run Tryd.prog w = .ok (.string ⟨#[Hex.hexd n]⟩) w := by
  have h1 := run_slice_string (P := Tryd.prog) w 9 ⟨#[48, 49, 50, 51, 52, 53, 54, 55, 56, 57, 97, 98, 99, 100, 101, 102]⟩ .i64 .i64 (n : Int) ((n : Int) + 1) Tryd.underlying9 (by omega) (by omega) (by show (n : Int) + 1 ≤ 16; omega)
  rw [h1]
  have h2 := dig_all ⟨n, h⟩
  simp only at h2
  have e1 : ((n : Int)).toNat = n := by omega
  have e2 : ((n : Int) + 1).toNat = n + 1 := by omega
  rw [e1, e2]
  exact congrArg (fun b => Result.ok (Value.string b) w) h2

theorem cons_text (c : UInt8) (l : List UInt8) : (ByteArray.mk #[c] ++ ByteArray.mk l.toArray) = ByteArray.mk (c :: l).toArray := by
  rw [show (#[c] : Array UInt8) = ([c] : List UInt8).toArray from rfl, ByteArray.mk_append_mk]; rfl

set_option maxHeartbeats 1000000 in
theorem wide_any (u : Nat) (hu : u < 18446744073709551616) (w : World) :
    Calls Tryd.prog 37 #[.int .u64 u] w fun e w' => e = .returned (.string ⟨(120 :: Hex.digits u 16).toArray⟩) ∧ w' = w := by
  go_enter Tryd.func37, Tryd.ntmps37
  go_wp2
  go_loop [0, 3, 4] (fun b s i => ∃ k v : Nat, k ≤ 16 ∧ i = .int .i64 k ∧ b = .int .u64 v ∧ Hid (v = u / 16 ^ k) ∧ s = .string ⟨(Hex.digits u k).toArray⟩) (fun _ _ i => 16 - (intOf i).toNat)
  case atStart => exact ⟨0, u, by omega, rfl, rfl, by show u = _; simp, rfl⟩
  case round =>
    obtain ⟨k, v, hk, rfl, rfl, HV, rfl⟩ := hrel
    have hl := Hex.digits_length u k
    have hv64 : v < 18446744073709551616 := by have := HV.out; have := Nat.div_le_self u (16 ^ k); omega
    by_cases hlt : k < 16
    · have hsl : ∀ w, (Instr.slice 9 (.string ⟨#[48, 49, 50, 51, 52, 53, 54, 55, 56, 57, 97, 98, 99, 100, 101, 102]⟩) (some (.int .i64 ((v : Int) % 16))) (some (.int .i64 ((v : Int) % 16 + 1))) none).run Tryd.prog w = .ok (.string ⟨#[Hex.hexd (v % 16)]⟩) w := fun w => by
        have := dig_slice (v % 16) (by omega) w
        simpa using this
      go_wp2
      go_round
      case rel =>
        refine ⟨k + 1, v / 16, by omega, by go_num, by go_num, ?_, ?_⟩
        · show v / 16 = _
          rw [HV.out, Nat.pow_succ, ← Nat.div_div_eq_div_mul]
        · rw [cons_text]
          have e : Hex.digits u (k + 1) = Hex.hexd (v % 16) :: Hex.digits u k := by
            rw [HV.out]; rfl
          rw [e]
      case measure => simp [intOf]; omega
    · have hk16 : k = 16 := by omega
      subst hk16
      clear hlt hk
      go_wp2
      go_ret
      exact ⟨congrArg (fun b => Ending.returned (Value.string b)) (cons_text _ _), rfl⟩

theorem hexd_dec (n : Nat) (h : n < 10) : Hex.hexd n = UInt8.ofNat (48 + n) := by unfold Hex.hexd; rw [if_pos h]

set_option maxHeartbeats 1000000 in
theorem decimal_any (u : Nat) (hu : u ≤ 9007199254740992) (w : World) :
    Calls Tryd.prog 36 #[.int .i64 u] w fun e w' => e = .returned (.string ⟨(Lib.decDigits u).toArray⟩) ∧ w' = w := by
  go_enter Tryd.func36, Tryd.ntmps36
  go_wp2
  go_loop [0, 3] (fun n s => ∃ (v : Nat) (d : List UInt8), d.length + v ≤ u ∧ n = .int .i64 v ∧ Hid (Lib.decDigits u = Lib.decDigits v ++ d) ∧ s = .string ⟨d.toArray⟩) (fun n _ => (intOf n).toNat)
  case atStart => exact ⟨u, [], by simp, rfl, by show _ = _; simp, rfl⟩
  case round =>
    obtain ⟨v, d, hd, rfl, HD, rfl⟩ := hrel
    by_cases hlt : 9 < v
    · have hsl : ∀ w, (Instr.slice 9 (.string ⟨#[48, 49, 50, 51, 52, 53, 54, 55, 56, 57, 97, 98, 99, 100, 101, 102]⟩) (some (.int .i64 ((v : Int) % 10))) (some (.int .i64 ((v : Int) % 10 + 1))) none).run Tryd.prog w = .ok (.string ⟨#[Hex.hexd (v % 10)]⟩) w := fun w => by
        have := dig_slice (v % 10) (by omega) w
        simpa using this
      go_wp2
      go_round
      case rel =>
        refine ⟨v / 10, Hex.hexd (v % 10) :: d, by simp; omega, by go_num, ?_, ?_⟩
        · show _ = _
          rw [HD.out, Lib.decDigits, dif_neg (by omega), hexd_dec _ (by omega)]
          simp
        · rw [cons_text]
      case measure => simp [intOf]; omega
    · have hsl : ∀ w, (Instr.slice 9 (.string ⟨#[48, 49, 50, 51, 52, 53, 54, 55, 56, 57, 97, 98, 99, 100, 101, 102]⟩) (some (.int .i64 (v : Int))) (some (.int .i64 ((v : Int) + 1))) none).run Tryd.prog w = .ok (.string ⟨#[Hex.hexd v]⟩) w := fun w => dig_slice v (by omega) w
      go_wp2
      go_ret
      refine ⟨?_, rfl⟩
      have e : Lib.decDigits u = Hex.hexd v :: d := by
        rw [HD.out, Lib.decDigits, dif_pos (by omega), hexd_dec _ (by omega)]; rfl
      rw [e]
      exact congrArg (fun b => Ending.returned (Value.string b)) (cons_text _ _)
end Go.Proofs.YtgcgaaoncfgckaaDoor

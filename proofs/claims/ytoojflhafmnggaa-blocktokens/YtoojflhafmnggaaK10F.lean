/- Four bytes as a map's key. -/
import Derived.Test.YtoojflhafmnggaaK10E
import Derived.Maps.OwnOps
import Derived.Maps.OwnSet
import Derived.DeepKeys4
namespace Go.Proofs.Ytoojflhafmnggaa
open Go.RowKit Go.Maps

theorem laid10 : laidOutB Try.prog = true := by kernel_rfl
theorem key4_row : (53 : TypeId) < Try.prog.types.size := of_decide_eq_true (by kernel_rfl)
theorem key4_wide : (match Try.prog.underlying 53 with | some (.array _ _) | some (.struct _) => true | _ => false) = true := by kernel_rfl
theorem law4 : Keyed Try.prog 53 := Keyed.of_law (deep_law_laid laid10 (m := 3) (by omega) key4_row (by kernel_rfl) key4_wide)
theorem zeroI (w : World) : (zeroValue 3).run Try.prog w = .ok (.int .i64 0) w := by kernel_rfl
theorem key4_type : Try.prog.keyType 53 = true := by kernel_rfl
theorem key4_cells : Try.prog.cellsOf 53 = 4 := by kernel_rfl
theorem key1_cells : Try.prog.cellsOf 5 = 1 := by kernel_rfl
theorem key4_size : ∃ n, Try.prog.types.size + 1 = n + 2 := ⟨Try.prog.types.size - 1, by kernel_rfl⟩

theorem key_wf8 (a : Nat) (h : a < 256) : (Lit.int .u8 (a : Int)).wf = true := by
  have : ∀ i : Fin 256, (Lit.int .u8 ((i.val : Nat) : Int)).wf = true := by decide +kernel
  exact this ⟨a, h⟩
theorem key_bytes8 (a : Nat) (h : a < 256) : Lit.keyBytes (.int .u8 (a : Int)) = [UInt8.ofNat a] := by
  show bytesBE 1 ((a : Int) % 2 ^ 8).toNat = _
  have e : ((a : Int) % 2 ^ 8).toNat = a := by omega
  rw [e]
  show [UInt8.ofNat (a % 256)] = _
  rw [Nat.mod_eq_of_lt h]
theorem lits1 (n a : Nat) (h : a < 256) : Try.prog.keyLits (n + 1) 5 [.int .u8 (a : Int)] = some [.int .u8 (a : Int)] := by
  unfold Program.keyLits
  simp only [Try.underlying5]
  rw [if_pos ⟨trivial, key_wf8 a h⟩]
theorem key4_of (a b c d : Nat) (ha : a < 256) (hb : b < 256) (hc : c < 256) (hd : d < 256) : keyOf Try.prog 53 (.agg #[.int .u8 a, .int .u8 b, .int .u8 c, .int .u8 d]) = some (.string [UInt8.ofNat a, UInt8.ofNat b, UInt8.ofNat c, UInt8.ofNat d]) := by
  obtain ⟨n, hn⟩ := key4_size
  have hl : Try.prog.keyLits (n + 2) 53 [.int .u8 a, .int .u8 b, .int .u8 c, .int .u8 d] = some [.int .u8 a, .int .u8 b, .int .u8 c, .int .u8 d] := by
    unfold Program.keyLits
    simp only [Try.underlying53]
    rw [if_pos (by rw [key4_cells]; rfl), key1_cells, show List.range 4 = [0, 1, 2, 3] from rfl]
    simp [lits1, ha, hb, hc, hd]
  unfold keyOf
  rw [hn]
  simp only [Try.underlying53]
  rw [if_pos (by rw [key4_type]; simp [Value.formed, Try.underlying53, key4_cells])]
  show (Try.prog.keyLits (n + 2) 53 [.int .u8 a, .int .u8 b, .int .u8 c, .int .u8 d]).map _ = _
  rw [hl]
  simp [keyBytes, key_bytes8, ha, hb, hc, hd]
end Go.Proofs.Ytoojflhafmnggaa

/- The walks of the library's number printing at base sixteen, and of package real's printBits. -/
import Derived.Test.YtgcgaaoncfgckabDoorWPrint
import Derived.Test.YtgcgaaoncfgckabDoorHex
import Derived.Lib.ItoaWalk
import Derived.Lib.ItoaMem
import Derived.LoopTactic
import Derived.Laws.Bits64b
import Derived.Laws.BitsAllLaws
import Derived.Laws.IdiomStrings
namespace Go.Proofs.YtgcgaaoncfgckabDoor
open Go.RowKit Go.Sort

theorem tzb1 : bits BinOp.and IntKind.u64 16 (IntKind.u64.wrap (-16)) = 16 := by kernel_rfl
theorem tzb2 : IntKind.u64.wrap 4573923408821661840 = 4573923408821661840 := by kernel_rfl

/-- the library's table of trailing zeros, at the one place that base sixteen asks -/
def Tz (w : World) : Prop := w.cell? ⟨5, 15, none⟩ = some (.int .u8 4)

set_option maxHeartbeats 400000 in
theorem ispow_16 (w : World) :
    Calls Tryd.prog 56 #[.int .i64 16] w fun e w' => e = .returned (.bool true) ∧ w' = w := by
  go_enter Tryd.func56, Tryd.ntmps56
  go_wp2
  go_ret
  exact ⟨rfl, rfl⟩

set_option maxRecDepth 10000 in
set_option maxHeartbeats 400000 in
theorem tz_16 (w : World) (hc : w.cell? ⟨5, 15, none⟩ = some (.int .u8 4)) :
    Calls Tryd.prog 57 #[.int .u64 16] w fun e w' => e = .returned (.int .i64 4) ∧ w' = w := by
  have h1 := tzb1
  have h2 := tzb2
  go_enter Tryd.func57, Tryd.ntmps57
  go_wp2
  go_ret
  exact ⟨rfl, rfl⟩

/-- the library's digits -/
def digs : ByteArray := ⟨#[48, 49, 50, 51, 52, 53, 54, 55, 56, 57, 97, 98, 99, 100, 101, 102, 103, 104, 105, 106, 107, 108, 109, 110, 111, 112, 113, 114, 115, 116, 117, 118, 119, 120, 121, 122]⟩
theorem digs_all : ∀ n : Fin 16, digs.data.toList.getD n.val 0 = Hex.hexd n.val := by decide
theorem digs_at (n : Nat) (h : n < 16) (h' : n < digs.size) : digs[n] = Hex.hexd n := by
  rw [Lib.getD_at digs n h']
  exact digs_all ⟨n, h⟩

theorem idx_digs (k : IntKind) (z : Int) (n : Nat) (hz : z = (n : Int)) (h : n < 16) (w : World) :
    (Instr.index 9 (.string digs) (.int k z)).run Tryd.prog w = .ok (.int .u8 ((Hex.hexd n).toNat : Int)) w := by
  subst hz
  have hsz : digs.size = 36 := by decide
  rw [run_index_string w 9 digs k _ Tryd.underlying9, dif_pos ⟨by omega, by rw [hsz]; omega⟩]
  have e : ((n : Int)).toNat = n := by omega
  simp only [e]
  rw [digs_at n h (by rw [hsz]; omega)]

theorem and_15 (v : Nat) (h : v < 18446744073709551616) : bits .and .u64 (v : Int) 15 = ((v % 16 : Nat) : Int) := by
  have := bits_and_u64_nat v 15 h (by omega)
  rw [show v &&& 15 = v % 16 from Nat.and_two_pow_sub_one_eq_mod v 4] at this
  exact this

theorem zeros65 : Tryd.zeroCells84 = Array.replicate 65 (Value.int .u8 0) := by kernel_rfl
theorem zeros65_at (i : Nat) (h : i < 65) : (Tryd.zeroCells84)[i]? = some (.int .u8 0) := by
  rw [zeros65]; simp [h]
theorem holds_zero65 (w : World) (T : TypeId) : Holds (fun (b : UInt8) => Value.int .u8 (b.toNat : Int)) (w.alloc (.cells Tryd.zeroCells84 T)) w.heap.size 0 (Array.replicate 65 (0 : UInt8)) := fun j hj => by
  have hj' : j < 65 := by simpa using hj
  refine ⟨?_, World.frozen?_alloc_new _ _ _ _⟩
  rw [World.cell?_alloc_new, Nat.zero_add, zeros65_at j hj']
  simp [hj']

theorem below_putRow {B : Nat} {a w : World} (h : RowKit.Below B a w) (d : Array UInt8) : RowKit.Below B a (putRow (fun (b : UInt8) => Value.int .u8 (b.toNat : Int)) w B 0 d) := by
  refine ⟨h.os, h.tape, h.output, by simpa using h.size, fun k hk => ?_⟩
  rw [← h.block k hk]
  simp only [putRow, mapBlock]
  rw [Array.getElem?_modify, if_neg (by omega)]

set_option maxRecDepth 100000 in
set_option maxHeartbeats 4000000 in
theorem formatBits_16 (u : Nat) (hu : u < 18446744073709551616) (w : World) (hz : Tz w) (hg : 5 < w.heap.size) :
    Calls Tryd.prog 38 #[.slice none 0 0, .int .u64 u, .int .i64 16, .bool false, .bool false] w fun e w' =>
      ∃ k, 1 ≤ k ∧ k ≤ 16 ∧ u < 16 ^ k ∧ e = .returned (.tuple #[.slice none 0 0, .string ⟨(Hex.digits u k).toArray⟩]) ∧ Below w.heap.size w w' := by
  have hH := holds_zero65 w 84
  have hz1 : (w.alloc (.cells Tryd.zeroCells84 84)).cell? ⟨5, 15, none⟩ = some (.int .u8 4) := by
    rw [World.cell?_alloc_past]; exact hz
    exact hg
  have HZ := Lib.hid hz1
  have AH := Lib.hid hH
  clear hz hz1 hH
  go_enter Tryd.func38, Tryd.ntmps38
  go_name_bytes MS hMS
  clear hMS
  go_name_bytes SM hSM
  have eSM : SM = digs := by rw [← hSM]; decide +kernel
  subst eSM
  clear hSM
  go_wp2_with fail
  refine (ispow_16 _).mono ?_
  rintro e w' ⟨rfl, rfl⟩
  go_wp2_with fail
  refine (tz_16 _ HZ.out).mono ?_
  rintro e w' ⟨rfl, rfl⟩
  go_wp2
  go_loopw [1, 13] (fun vu vi wr => ∃ (i v : Nat) (dk : Array UInt8), vu = .int .u64 v ∧ vi = .int .i64 i ∧ wr = putRow (fun (b : UInt8) => Value.int .u8 (b.toNat : Int)) (w.alloc (.cells Tryd.zeroCells84 84)) w.heap.size 0 dk ∧ Hid (Hex.Inv u i v dk)) (fun _ vi _ => (RowKit.intOf vi).toNat)
  case atStart => exact ⟨65, u, _, rfl, rfl, (putRow_self _ _ _ _ _ AH.out).symm, Hex.Inv.start u⟩
  case round =>
    obtain ⟨i, v, dk, rfl, rfl, hw, HI⟩ := hrel
    rename World => W0
    have hs := HI.out.size
    have hle := HI.out.le
    have hlow := HI.out.low
    have hv64 : v < 18446744073709551616 := by have := HI.out.rest; have := Nat.div_le_self u (16 ^ (65 - i)); omega
    obtain ⟨m, rfl⟩ : ∃ m, i = m + 1 := ⟨i - 1, by omega⟩
    have hH0 : Holds (fun (b : UInt8) => Value.int .u8 (b.toNat : Int)) W0 w.heap.size 0 dk := by rw [hw]; exact holds_putRow _ _ _ _ _ dk AH.out (by simp [hs])
    obtain ⟨G0, hG0⟩ : ∃ G : Nat → Int, ∀ t, G t = (dk[t]!.toNat : Int) := ⟨_, fun _ => rfl⟩
    have hc0 : W0.cell? ⟨w.heap.size, m, none⟩ = some (.int .u8 (G0 m)) := by have := (hH0 m (by omega)).1; rw [hG0]; simpa using this
    have hf0 : W0.frozen? ⟨w.heap.size, m, none⟩ = false := by have := (hH0 m (by omega)).2; simpa using this
    have hset : ∀ c : UInt8, W0.setCell ⟨w.heap.size, m, none⟩ (.int .u8 (c.toNat : Int)) = putRow (fun (b : UInt8) => Value.int .u8 (b.toNat : Int)) (w.alloc (.cells Tryd.zeroCells84 84)) w.heap.size 0 (dk.setIfInBounds m c) := fun c => by
      have := putRow_set (fun (b : UInt8) => Value.int .u8 (b.toNat : Int)) (w.alloc (.cells Tryd.zeroCells84 84)) w.heap.size 0 dk m c (by omega)
      rw [Nat.zero_add] at this
      rw [hw]; exact this
    have HS := Lib.hid hset
    have HW := Lib.hid hw
    clear hset hw hG0 hH0 hs HZ hg
    by_cases hv : 16 ≤ v
    · have hand : bits .and .u64 (v : Int) 15 = (v : Int) % 16 := by have := and_15 v hv64; simpa using this
      have hX : ∀ w, (Instr.index 9 (.string digs) (.int .u64 ((v : Int) % 16))).run Tryd.prog w = .ok (.int .u8 ((Hex.hexd (v % 16)).toNat : Int)) w := idx_digs .u64 _ (v % 16) (by omega) (by omega)
      go_wp2
      go_roundw
      case rel => exact ⟨m, v / 16, _, by first | go_num | (congr 1; omega), by first | go_num | (congr 1; omega), HS.out _, HI.out.step hu hv _ rfl⟩
      case measure => simp [RowKit.intOf]
    · have hX : ∀ w, (Instr.index 9 (.string digs) (.int .u64 (v : Int))).run Tryd.prog w = .ok (.int .u8 ((Hex.hexd (v % 16)).toNat : Int)) w := by
        rw [Nat.mod_eq_of_lt (by omega)]
        exact idx_digs .u64 _ v rfl (by omega)
      have hal : Tryd.prog.arrayLen 84 = 65 := by kernel_rfl
      have hel : Tryd.prog.elem 84 = 5 := by kernel_rfl
      have hsl : ∀ W, (Instr.sliceAt 84 (.pointer (some ⟨w.heap.size, 0, none⟩)) (some (.int .i64 (m : Int))) none none).run Tryd.prog W = .ok (.slice (some ⟨w.heap.size, m, none⟩) (65 - m) (65 - m)) W := fun W => by
        rw [run_sliceAt_array_l W 84 ⟨w.heap.size, 0, none⟩ (by kernel_rfl) .i64 (m : Int) (by omega) (by rw [hal]; omega), hal, hel]
        go_simp
        omega
      obtain ⟨hlt, hrow⟩ := HI.out.last (by omega) (Hex.hexd (v % 16)) rfl
      have hcell : ∀ j, j < 65 - m → (W0.setCell ⟨w.heap.size, m, none⟩ (.int .u8 ((Hex.hexd (v % 16)).toNat : Int))).cell? ⟨w.heap.size, m + j, none⟩ = some (.int .u8 (((Hex.digits u (65 - m))[j]?.getD 0).toNat : Int)) := fun j hj => by
        rw [HS.out, ← hrow j hj]
        have hsz : (dk.setIfInBounds m (Hex.hexd (v % 16))).size = 65 := by simp [HI.out.size]
        have := cell?_putRow (fun (b : UInt8) => Value.int .u8 (b.toNat : Int)) (w.alloc (.cells Tryd.zeroCells84 84)) w.heap.size 0 _ (dk.setIfInBounds m (Hex.hexd (v % 16))) AH.out (by simp [hsz]) (m + j) (by omega)
        rw [Nat.zero_add] at this
        exact this
      have hcv : (convert 59 9 (.slice (some ⟨w.heap.size, m, none⟩) (65 - m) (65 - m))).run Tryd.prog (W0.setCell ⟨w.heap.size, m, none⟩ (.int .u8 ((Hex.hexd (v % 16)).toNat : Int))) = .ok (.string ⟨(Hex.digits u (65 - m)).toArray⟩) (W0.setCell ⟨w.heap.size, m, none⟩ (.int .u8 ((Hex.hexd (v % 16)).toNat : Int))) := by
        have h := run_convert_bytes_back (P := Tryd.prog) (W0.setCell ⟨w.heap.size, m, none⟩ (.int .u8 ((Hex.hexd (v % 16)).toNat : Int))) 59 9 5 ⟨w.heap.size, m, none⟩ (65 - m) (Hex.digits u (65 - m)) Tryd.underlying59 Tryd.underlying5 Tryd.underlying9 (fun j hj => by
          rw [Lib.add_plain]
          have hj' : j < 65 - m := by rw [Hex.digits_length] at hj; exact hj
          rw [hcell j hj', List.getElem?_eq_getElem hj]; rfl)
        rw [Hex.digits_length] at h
        exact h
      have hbel : RowKit.Below w.heap.size w (W0.setCell ⟨w.heap.size, m, none⟩ (.int .u8 ((Hex.hexd (v % 16)).toNat : Int))) := by
        rw [HS.out]
        have h1 : RowKit.Below w.heap.size w (w.alloc (.cells Tryd.zeroCells84 84)) := (Below.refl _ _).alloc (Nat.le_refl _) _
        exact below_putRow h1 _
      have HB := Lib.hid hbel
      have HL := Lib.hid hlt
      clear hbel hlt hrow hcell hal hel
      go_wp2
      go_ret2
      exact ⟨65 - m, by omega, by omega, HL.out, rfl, HB.out⟩
end Go.Proofs.YtgcgaaoncfgckabDoor

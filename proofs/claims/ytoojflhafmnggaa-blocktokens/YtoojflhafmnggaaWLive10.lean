/- live(): what a few calls answer. -/
import Derived.Test.YtoojflhafmnggaaK10I
import Derived.Lib.SmallJoins
namespace Go.Proofs.Ytoojflhafmnggaa
open Go.RowKit

theorem at_litF (w : World) (C : Array Value) (fr : Nat × Nat) (l : List UInt8) (h : C = (cellsOf l).toArray) : At (w.alloc (.cells C 5 fr)) (some ⟨w.heap.size, 0, none⟩) l := by
  refine .inr ⟨_, _, rfl, by simp, fun j hj => ?_⟩
  subst h
  rw [Nat.zero_add, blk_cell (blk_new w _) j]
  have := cellsOf_get l j hj
  simpa using this
theorem at_lit (w : World) (C : Array Value) (l : List UInt8) (h : C = (cellsOf l).toArray) : At (w.alloc (.cells C 5)) (some ⟨w.heap.size, 0, none⟩) l := at_litF w C (0, 0) l h
theorem un_a : Blk.unpack [1, 2, 97, 11, 1] = ⟨0, [97, 97, 97, 97, 97, 97]⟩ := by kernel_rfl
theorem un_2 : Blk.unpack [2] = ⟨5, []⟩ := by kernel_rfl
theorem pack_abc : Blk.pack [97, 98, 99] = ⟨0, [0, 97, 98, 99]⟩ := by kernel_rfl
theorem un_abc : Blk.unpack [0, 97, 98, 99] = ⟨0, [97, 98, 99]⟩ := by kernel_rfl
theorem Has.at' {w : World} {B m cap : Nat} {q : Option Addr} {l : List UInt8} (h : Has w B (.slice q m cap) l) : At w q l ∧ l.length ≤ cap := by
  obtain ⟨p, c, e, h1, h2⟩ := h.at
  injection e with e1 e2 e3
  subst e1
  subst e3
  exact ⟨h1, h2⟩

set_option maxRecDepth 100000 in
set_option maxHeartbeats 1000000 in
theorem live10 (w : World) :
    Calls Try.prog 10 #[] w fun e w' => e = .returned (.bool true) ∧ Below w.heap.size w w' := by
  have kc := fun (w : World) (C : Array Value) (n c : Nat) => Lib.run_convert_bytes_const (P := Try.prog) w 22 5 C n c Try.underlying22 Try.underlying5
  go_enter Try.func10, Try.ntmps10
  go_wp2_with fail
  have U1 := unpackK [1, 2, 97, 11, 1] (some ⟨w.heap.size, 0, none⟩) 5 _ (by decide) (by decide) (at_lit w #[.int .u8 1, .int .u8 2, .int .u8 97, .int .u8 11, .int .u8 1] [1, 2, 97, 11, 1] rfl)
  rw [un_a] at U1
  refine U1.mono ?_
  clear U1
  rintro e w1 ⟨q1, m1, cap1, rfl, hm1, hh1, hb1⟩
  have B1 : Hid (Below w.heap.size w w1) := ((Below.refl _ _).alloc (Nat.le_refl _) _).trans (hb1.mono (by simp))
  have A1 := Lib.hid hh1.at'.1
  have hm1' : m1 = 6 := hm1
  subst hm1'
  clear hm1 hh1 hb1
  go_wp2_with fail
  have U2 := unpackK [2] (some ⟨w1.heap.size, 0, none⟩) 1 _ (by decide) (by decide) (at_lit w1 #[.int .u8 2] [2] rfl)
  rw [un_2] at U2
  refine U2.mono ?_
  clear U2
  rintro e w2 ⟨q2, m2, cap2, rfl, -, -, hb2⟩
  have C2 : Below w1.heap.size w1 w2 := ((Below.refl _ _).alloc (Nat.le_refl _) _).trans (hb2.mono (by simp))
  have B2 := Lib.hid (B1.out.trans (C2.mono B1.out.size))
  have A2 := Lib.hid (A1.out.on C2)
  clear hb2 C2 A1 B1
  go_wp2_with fail
  have U3 := packK [97, 98, 99] (some ⟨w2.heap.size, 0, none⟩) 3 _ (by decide) (by decide) (at_litF w2 #[.int .u8 97, .int .u8 98, .int .u8 99] (3, 4) [97, 98, 99] rfl)
  rw [pack_abc] at U3
  refine U3.mono ?_
  clear U3
  rintro e w3 ⟨q3, m3, cap3, rfl, hm3, hh3, hb3⟩
  have C3 : Below w2.heap.size w2 w3 := ((Below.refl _ _).alloc (Nat.le_refl _) _).trans (hb3.mono (by simp))
  have B3 := Lib.hid (B2.out.trans (C3.mono B2.out.size))
  have A3 := Lib.hid (A2.out.on C3)
  have P3 := Lib.hid hh3.at'
  have hm3' : m3 = 4 := hm3
  subst hm3'
  clear hm3 hh3 hb3 C3 A2 B2
  go_wp2_with fail
  have U4 := unpackK [0, 97, 98, 99] q3 cap3 w3 (by decide) P3.out.2 P3.out.1
  rw [un_abc] at U4
  refine U4.mono ?_
  clear U4
  rintro e w4 ⟨q4, m4, cap4, rfl, hm4, hh4, hb4⟩
  have B4 := Lib.hid (B3.out.trans (hb4.mono B3.out.size))
  have A4 := Lib.hid (A3.out.on hb4)
  have P4 := Lib.hid hh4.at'.1
  have hm4' : m4 = 3 := hm4
  subst hm4'
  clear hm4 hh4 hb4 A3 B3
  go_wp2_with fail
  have C5 : Hid (Below w4.heap.size w4 (w4.alloc (.cells #[.int .u8 97, .int .u8 97, .int .u8 97, .int .u8 97, .int .u8 97, .int .u8 97] 5 (6, 7)))) := (Below.refl _ _).alloc (Nat.le_refl _) _
  refine (same_any q1 (some ⟨w4.heap.size, 0, none⟩) cap1 6 [97, 97, 97, 97, 97, 97] [97, 97, 97, 97, 97, 97] (by decide) _ (A4.out.on C5.out) (at_litF w4 _ (6, 7) [97, 97, 97, 97, 97, 97] rfl)).mono ?_
  rintro e w5 ⟨rfl, k5, hw5⟩
  have C6 : Hid (Below w4.heap.size w4 w5) := by rw [hw5]; exact below_drewN C5.out k5
  have B5 := Lib.hid (B4.out.trans (C6.out.mono B4.out.size))
  have P5 := Lib.hid (P4.out.on C6.out)
  clear hw5 C5 C6 A4 P4 B4
  rw [beq_self_eq_true]
  go_wp2_with fail
  have C7 : Hid (Below w5.heap.size w5 (w5.alloc (.cells #[.int .u8 97, .int .u8 98, .int .u8 99] 5 (3, 4)))) := (Below.refl _ _).alloc (Nat.le_refl _) _
  refine (same_any q4 (some ⟨w5.heap.size, 0, none⟩) cap4 3 [97, 98, 99] [97, 98, 99] (by decide) _ (P5.out.on C7.out) (at_litF w5 _ (3, 4) [97, 98, 99] rfl)).mono ?_
  rintro e w6 ⟨rfl, k6, hw6⟩
  have B6 : Hid (Below w.heap.size w w6) := by rw [hw6]; exact below_drewN (B5.out.trans (C7.out.mono B5.out.size)) k6
  clear hw6 C7 P5 B5
  rw [beq_self_eq_true]
  go_wp2
  go_ret
  exact ⟨rfl, B6.out⟩
end Go.Proofs.Ytoojflhafmnggaa

/- What the laws ask of package leb's functions; live(), LebNumbers, LebPuts, LebGets over that alone. -/
import Derived.Test.YthbkmliggdpmoaaWRefG3
namespace Go.Proofs.Ythbkmliggdpmoaa
open Go.RowKit

/-- what package leb's functions answer, in every world of which I holds -/
structure LebOk (I : World → Prop) : Prop where
  on : ∀ {w w' : World}, I w → Below w.heap.size w w' → I w'
  put : ∀ (n : Nat) (w : World), n < 18446744073709551616 → I w → Calls Try.prog 10 #[.int .u64 n] w fun e w' => ∃ g o cap, e = .returned (.slice (some ⟨g, o, none⟩) (Leb.put n).length cap) ∧ Free w' g o (Leb.put n) ∧ w.heap.size ≤ g ∧ (Leb.put n).length ≤ cap ∧ Below w.heap.size w w'
  len : ∀ (n : Nat) (w : World), n < 18446744073709551616 → I w → Calls Try.prog 15 #[.int .u64 n] w fun e w' => e = .returned (.int .i64 ((Leb.put n).length : Nat)) ∧ Below w.heap.size w w'
  get : ∀ (p : Option Addr) (c : Nat) (l : List UInt8) (a : Int) (w : World), l.length ≤ 140737488351232 → l.length ≤ c → -9223372036854775808 ≤ a → a ≤ 9223372036854775807 → At w p l → I w → Calls Try.prog 9 #[.slice p l.length c, .int .i64 a] w fun e w' => e = .returned (gotV l a) ∧ Below w.heap.size w w'
  zig : ∀ (n : Int) (w : World), -9223372036854775808 ≤ n → n ≤ 9223372036854775807 → I w → Calls Try.prog 11 #[.int .i64 n] w fun e w' => e = .returned (.int .u64 (Leb.zig n : Nat)) ∧ Below w.heap.size w w'
  zag : ∀ (u : Nat) (w : World), u < 18446744073709551616 → I w → Calls Try.prog 18 #[.int .u64 u] w fun e w' => e = .returned (.int .i64 (Leb.zag u)) ∧ Below w.heap.size w w'

theorem at_lit (w : World) (C : Array Value) (l : List UInt8) (h : C = (cellsOf l).toArray) : At (w.alloc (.cells C 5)) (some ⟨w.heap.size, 0, none⟩) l := by
  refine .inr ⟨_, _, rfl, by simp, fun j hj => ?_⟩
  subst h
  have := new_cells w l #[] 5 j hj
  rw [Array.append_empty] at this
  exact this

theorem got_300 : gotV [172, 2, 7] 0 = .tuple #[.int .u64 300, .int .i64 2, .int .i64 0] := by kernel_rfl
theorem got_form : gotV [128, 0] 0 = .tuple #[.int .u64 0, .int .i64 0, .int .i64 5] := by kernel_rfl
theorem got_none : gotV [] 0 = .tuple #[.int .u64 0, .int .i64 0, .int .i64 30] := by kernel_rfl
theorem len_300 : (Leb.put 300).length = 2 := by kernel_rfl
theorem len_max : (Leb.put 18446744073709551615).length = 10 := by kernel_rfl
theorem zig_m1 : Leb.zig (-1) = 1 := by kernel_rfl
theorem zig_min : Leb.zig (-9223372036854775808) = 18446744073709551615 := by kernel_rfl
theorem zag_1 : Leb.zag 1 = -1 := by kernel_rfl

set_option maxHeartbeats 1000000 in
theorem lebLive_ok {I : World → Prop} (K : LebOk I) (w : World) (hI : I w) :
    Calls Try.prog 13 #[] w fun e w' => e = .returned (.bool true) ∧ Below w.heap.size w w' := by
  have HK := Lib.hid K
  have HI := Lib.hid hI
  clear hI
  go_enter Try.func13, Try.ntmps13
  go_wp2_with fail
  have B0 : Hid (Below w.heap.size w (w.alloc (.cells #[.int .u8 172, .int .u8 2, .int .u8 7] 5))) := (Below.refl _ _).alloc (Nat.le_refl _) _
  refine (HK.out.get _ 3 [172, 2, 7] 0 _ (by decide) (by decide) (by decide) (by decide) (at_lit w _ [172, 2, 7] rfl) (HK.out.on HI.out B0.out)).mono ?_
  rintro e w1 ⟨rfl, hb⟩
  have B1 := Lib.hid (B0.out.trans (hb.mono B0.out.size))
  clear hb B0
  rw [got_300]
  go_wp2_with fail
  have B2 : Hid (Below w.heap.size w (w1.alloc (.cells #[.int .u8 128, .int .u8 0] 5))) := B1.out.alloc B1.out.size _
  refine (HK.out.get _ 2 [128, 0] 0 _ (by decide) (by decide) (by decide) (by decide) (at_lit w1 _ [128, 0] rfl) (HK.out.on HI.out B2.out)).mono ?_
  rintro e w2 ⟨rfl, hb⟩
  have B3 := Lib.hid (B2.out.trans (hb.mono B2.out.size))
  clear hb B2
  rw [got_form]
  go_wp2_with fail
  refine (HK.out.len 300 _ (by decide) (HK.out.on HI.out B3.out)).mono ?_
  rintro e w3 ⟨rfl, hb⟩
  have B4 := Lib.hid (B3.out.trans (hb.mono B3.out.size))
  clear hb
  rw [len_300]
  go_wp2_with fail
  refine (HK.out.zig (-1) _ (by decide) (by decide) (HK.out.on HI.out B4.out)).mono ?_
  rintro e w4 ⟨rfl, hb⟩
  have B5 := Lib.hid (B4.out.trans (hb.mono B4.out.size))
  clear hb
  rw [zig_m1]
  go_wp2_with fail
  refine (HK.out.zag 1 _ (by decide) (HK.out.on HI.out B5.out)).mono ?_
  rintro e w5 ⟨rfl, hb⟩
  have B6 := Lib.hid (B5.out.trans (hb.mono B5.out.size))
  clear hb
  rw [zag_1]
  go_wp2
  go_ret
  exact ⟨rfl, B6.out⟩
end Go.Proofs.Ythbkmliggdpmoaa

/- What the laws ask of package stuff's functions; live() over that alone. -/
import Derived.Test.YtecophlkbomlmaaWRefU
namespace Go.Proofs.Ytecophlkbomlmaa
open Go.RowKit

/-- what package stuff's functions answer, in every world of which I holds -/
structure StuffOk (I : World → Prop) : Prop where
  on : ∀ {w w' : World}, I w → Below w.heap.size w w' → I w'
  stuff : ∀ (p : Option Addr) (c : Nat) (l : List UInt8) (w : World), l.length ≤ 140737488351232 → l.length ≤ c → At w p l → I w → Calls Try.prog 7 #[.slice p l.length c] w fun e w' => ∃ g o cap, e = .returned (.slice (some ⟨g, o, none⟩) (Cob.stuff l).length cap) ∧ Free w' g o (Cob.stuff l) ∧ w.heap.size ≤ g ∧ (Cob.stuff l).length ≤ cap ∧ Below w.heap.size w w'
  len : ∀ (p : Option Addr) (c : Nat) (l : List UInt8) (w : World), l.length ≤ 140737488351232 → l.length ≤ c → At w p l → I w → Calls Try.prog 8 #[.slice p l.length c] w fun e w' => e = .returned (.int .i64 ((Cob.stuff l).length : Nat)) ∧ Below w.heap.size w w'
  unstuff : ∀ (p : Option Addr) (c : Nat) (l : List UInt8) (w : World), l.length ≤ 150000000000000 → l.length ≤ c → At w p l → I w → Calls Try.prog 12 #[.slice p l.length c] w fun e w' => ∃ q cap, e = .returned (.tuple #[.slice q (Cob.un l).2.length cap, .int .i64 ((Cob.un l).1 : Nat)]) ∧ At w' q (Cob.un l).2 ∧ (Cob.un l).2.length ≤ cap ∧ ((Cob.un l).2 ≠ [] → ∃ g o, q = some ⟨g, o, none⟩ ∧ w.heap.size ≤ g ∧ Free w' g o (Cob.un l).2) ∧ Below w.heap.size w w'

theorem at_lit (w : World) (C : Array Value) (l : List UInt8) (h : C = (cellsOf l).toArray) : At (w.alloc (.cells C 5)) (some ⟨w.heap.size, 0, none⟩) l := by
  refine .inr ⟨_, _, rfl, by simp, fun j hj => ?_⟩
  subst h
  have := new_cells w l #[] 5 j hj
  rw [Array.append_empty] at this
  exact this

theorem stuff_4 : Cob.stuff [17, 34, 0, 51] = [3, 17, 34, 2, 51] := by kernel_rfl
theorem un_3 : Cob.un [2, 17, 1] = (0, [17, 0]) := by kernel_rfl
theorem un_2 : Cob.un [3, 17] = (30, []) := by kernel_rfl

set_option maxHeartbeats 1000000 in
theorem stuffLive_ok {I : World → Prop} (K : StuffOk I) (w : World) (hI : I w) :
    Calls Try.prog 10 #[] w fun e w' => e = .returned (.bool true) ∧ Below w.heap.size w w' := by
  have HK := Lib.hid K
  have HI := Lib.hid hI
  clear hI
  go_enter Try.func10, Try.ntmps10
  go_wp2_with fail
  have B0 : Hid (Below w.heap.size w (w.alloc (.cells #[.int .u8 17, .int .u8 34, .int .u8 0, .int .u8 51] 5))) := (Below.refl _ _).alloc (Nat.le_refl _) _
  refine (HK.out.stuff _ 4 [17, 34, 0, 51] _ (by decide) (by decide) (at_lit w _ [17, 34, 0, 51] rfl) (HK.out.on HI.out B0.out)).mono ?_
  rintro e w1 ⟨g1, o1, cap1, rfl, hF, -, -, hb⟩
  have B1 := Lib.hid (B0.out.trans (hb.mono B0.out.size))
  have A1 := Lib.hid hF.at
  clear hb B0 hF
  rw [stuff_4] at A1 ⊢
  go_wp2_with fail
  have C2 : Hid (Below w1.heap.size w1 (w1.alloc (.cells #[.int .u8 2, .int .u8 17, .int .u8 1] 5))) := (Below.refl _ _).alloc (Nat.le_refl _) _
  have B2 := Lib.hid (B1.out.trans (C2.out.mono B1.out.size))
  refine (HK.out.unstuff _ 3 [2, 17, 1] _ (by decide) (by decide) (at_lit w1 _ [2, 17, 1] rfl) (HK.out.on HI.out B2.out)).mono ?_
  rintro e w2 ⟨q2, cap2, rfl, hA2, -, -, hb⟩
  have B3 := Lib.hid (B2.out.trans (hb.mono B2.out.size))
  have A1' := Lib.hid ((A1.out.on C2.out).on hb)
  have A2 := Lib.hid hA2
  clear hb B2 C2 A1 hA2
  rw [un_3] at A2 ⊢
  go_wp2_with fail
  have C4 : Hid (Below w2.heap.size w2 (w2.alloc (.cells #[.int .u8 3, .int .u8 17] 5))) := (Below.refl _ _).alloc (Nat.le_refl _) _
  have B4 := Lib.hid (B3.out.trans (C4.out.mono B3.out.size))
  refine (HK.out.unstuff _ 2 [3, 17] _ (by decide) (by decide) (at_lit w2 _ [3, 17] rfl) (HK.out.on HI.out B4.out)).mono ?_
  rintro e w3 ⟨q3, cap3, rfl, -, -, -, hb⟩
  have B5 := Lib.hid (B4.out.trans (hb.mono B4.out.size))
  have A1'' := Lib.hid ((A1'.out.on C4.out).on hb)
  have A2' := Lib.hid ((A2.out.on C4.out).on hb)
  clear hb B4 C4 A1' A2
  rw [un_2]
  go_wp2_with fail
  have C6 : Hid (Below w3.heap.size w3 (w3.alloc (.cells #[.int .u8 3, .int .u8 17, .int .u8 34, .int .u8 2, .int .u8 51] 5))) := (Below.refl _ _).alloc (Nat.le_refl _) _
  have B6 := Lib.hid (B5.out.trans (C6.out.mono B5.out.size))
  refine (same_any _ _ cap1 5 [3, 17, 34, 2, 51] [3, 17, 34, 2, 51] (by decide) _ (A1''.out.on C6.out) (at_lit w3 _ [3, 17, 34, 2, 51] rfl)).mono ?_
  rintro e w4 ⟨rfl, n4, hw4⟩
  have C7 : Hid (Below w3.heap.size w3 w4) := by rw [hw4]; exact below_drewN C6.out n4
  have B7 := Lib.hid (B5.out.trans (C7.out.mono B5.out.size))
  have A2'' := Lib.hid (A2'.out.on C7.out)
  rw [beq_self_eq_true]
  clear hw4 C6 B6 C7 A2' A1''
  go_wp2_with fail
  have C8 : Hid (Below w4.heap.size w4 (w4.alloc (.cells #[.int .u8 17, .int .u8 0] 5))) := (Below.refl _ _).alloc (Nat.le_refl _) _
  have B8 := Lib.hid (B7.out.trans (C8.out.mono B7.out.size))
  refine (same_any _ _ cap2 2 [17, 0] [17, 0] (by decide) _ (A2''.out.on C8.out) (at_lit w4 _ [17, 0] rfl)).mono ?_
  rintro e w5 ⟨rfl, n5, hw5⟩
  have B9 : Hid (Below w.heap.size w w5) := by rw [hw5]; exact below_drewN B8.out n5
  rw [beq_self_eq_true]
  clear hw5 C8 B8 A2''
  go_wp2_with fail
  refine (HK.out.len none 0 [] _ (by decide) (by decide) (.inl rfl) (HK.out.on HI.out B9.out)).mono ?_
  rintro e w6 ⟨rfl, hb⟩
  have B10 := Lib.hid (B9.out.trans (hb.mono B9.out.size))
  clear hb
  rw [stuff_nil]
  go_wp2
  go_ret
  exact ⟨rfl, B10.out⟩
end Go.Proofs.Ytecophlkbomlmaa

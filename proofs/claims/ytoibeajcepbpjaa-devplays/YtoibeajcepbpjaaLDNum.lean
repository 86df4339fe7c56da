/- live(), DevNumbers over what package dev's functions answer. -/
import Derived.Test.YtoibeajcepbpjaaDevC
namespace Go.Proofs.Ytoibeajcepbpjaa
open Go.RowKit

theorem at_lit (w : World) (C : Array Value) (l : List UInt8) (h : C = (cellsOf l).toArray) : At (w.alloc (.cells C 5)) (some ⟨w.heap.size, 0, none⟩) l := by
  refine .inr ⟨_, _, rfl, by simp, fun j hj => ?_⟩
  subst h
  have := new_cells w l #[] 5 j hj
  rw [Array.append_empty] at this
  exact this

theorem live_1 : Dv.write (Dv.new 10) [1, 2, 3] = (0, ⟨[1, 2, 3], 10, 0, false, false, 0, 0, 0, 3⟩) := by kernel_rfl
theorem live_2 : Dv.sync ⟨[1, 2, 3], 10, 0, false, false, 0, 0, 0, 3⟩ = (0, ⟨[1, 2, 3], 10, 3, false, false, 0, 0, 0, 3⟩) := by kernel_rfl
theorem live_3 : Dv.fail ⟨[1, 2, 3], 10, 3, false, false, 0, 0, 0, 3⟩ 2 1 = (0, ⟨[1, 2, 3], 10, 3, false, true, 2, 1, 0, 3⟩) := by kernel_rfl
theorem live_4 : Dv.write ⟨[1, 2, 3], 10, 3, false, true, 2, 1, 0, 3⟩ [4, 5, 6] = (51, ⟨[1, 2, 3, 4], 10, 3, true, false, 0, 1, 0, 5⟩) := by kernel_rfl
theorem live_5 : Dv.write ⟨[1, 2, 3, 4], 10, 3, true, false, 0, 1, 0, 5⟩ [] = (50, ⟨[1, 2, 3, 4], 10, 3, true, false, 0, 1, 0, 5⟩) := by kernel_rfl

section
variable {I : Nat → World → Prop} {Rep : DRep}

theorem fresh_not (K : DevOk I Rep) {w : World} {B : Nat} {a : Addr} {s : Dv.St} {F : Nat → Prop} (h : Rep w B a s F) {p : Option Addr} {x : Nat} (hp : p = some ⟨x, 0, none⟩) (hx : w.heap.size ≤ x) : ∀ b o, p = some ⟨b, o, none⟩ → ¬ F b := by
  intro b o he hf
  rw [hp] at he
  injection he with he
  injection he with h1 _ _
  subst h1
  have := (K.lies h _ hf).2
  omega

set_option maxHeartbeats 1000000 in
theorem devLive_ok (K : DevOk I Rep) (w : World) (hI : I w.heap.size w) :
    Calls Try.prog 9 #[] w fun e w' => e = .returned (.bool true) ∧ Below w.heap.size w w' := by
  have HK := Lib.hid K
  have HI := Lib.hid hI
  clear hI
  go_enter Try.func9, Try.ntmps9
  go_wp2_with fail
  refine (HK.out.newOk 10 w.heap.size w (by decide) HI.out (Nat.le_refl _)).mono ?_
  rintro e w1 ⟨a, F1, rfl, hR, _, hb⟩
  have O1 : Hid (One Rep w.heap.size a w w1 (Dv.new 10) F1) := ⟨hR, hb, hb.size⟩
  clear hR hb
  go_wp2_with fail
  have N1 := Lib.hid (O1.out.on HK.out ((Below.refl _ _).alloc (Nat.le_refl _) (.cells #[.int .u8 1, .int .u8 2, .int .u8 3] 5)))
  have H1 := Lib.hid (HK.out.write (some ⟨w1.heap.size, 0, none⟩) 3 [1, 2, 3] (by decide) (by decide) (at_lit w1 _ [1, 2, 3] rfl) (fun _ => fresh_not HK.out O1.out.rep rfl (Nat.le_refl _)) N1.out.rep ⟨by decide, by decide, by decide, by decide, by decide, by decide, by decide⟩ (HK.out.on HI.out N1.out.world) N1.out.room)
  rw [live_1] at H1
  refine H1.out.mono ?_
  rintro e w2 ⟨rfl, F2, hR, hA, _⟩
  have O2 := Lib.hid (N1.out.step HK.out hR hA)
  clear hR hA H1 N1 O1
  go_wp2_with fail
  have H2 := Lib.hid (HK.out.sync O2.out.rep ⟨by decide, by decide, by decide, by decide, by decide, by decide, by decide⟩ (HK.out.on HI.out O2.out.world) O2.out.room)
  rw [live_2] at H2
  refine H2.out.mono ?_
  rintro e w3 ⟨rfl, F3, hR, hA, _⟩
  have O3 := Lib.hid (O2.out.step HK.out hR hA)
  clear hR hA H2 O2
  go_wp2_with fail
  have H3 := Lib.hid (HK.out.fail 2 1 (by decide) (by decide) (by decide) (by decide) O3.out.rep ⟨by decide, by decide, by decide, by decide, by decide, by decide, by decide⟩ (HK.out.on HI.out O3.out.world) O3.out.room)
  rw [live_3] at H3
  refine H3.out.mono ?_
  rintro e w4 ⟨rfl, F4, hR, hA, _⟩
  have O4 := Lib.hid (O3.out.step HK.out hR hA)
  clear hR hA H3 O3
  go_wp2_with fail
  have N4 := Lib.hid (O4.out.on HK.out ((Below.refl _ _).alloc (Nat.le_refl _) (.cells #[.int .u8 4, .int .u8 5, .int .u8 6] 5)))
  have H4 := Lib.hid (HK.out.write (some ⟨w4.heap.size, 0, none⟩) 3 [4, 5, 6] (by decide) (by decide) (at_lit w4 _ [4, 5, 6] rfl) (fun _ => fresh_not HK.out O4.out.rep rfl (Nat.le_refl _)) N4.out.rep ⟨by decide, by decide, by decide, by decide, by decide, by decide, by decide⟩ (HK.out.on HI.out N4.out.world) N4.out.room)
  rw [live_4] at H4
  refine H4.out.mono ?_
  rintro e w5 ⟨rfl, F5, hR, hA, _⟩
  have O5 := Lib.hid (N4.out.step HK.out hR hA)
  clear hR hA H4 N4 O4
  go_wp2_with fail
  have H5 := Lib.hid (HK.out.write none 0 [] (by decide) (by decide) (.inl rfl) (fun h => absurd rfl h) O5.out.rep ⟨by decide, by decide, by decide, by decide, by decide, by decide, by decide⟩ (HK.out.on HI.out O5.out.world) O5.out.room)
  rw [live_5] at H5
  refine H5.out.mono ?_
  rintro e w6 ⟨rfl, F6, hR, hA, _⟩
  have O6 := Lib.hid (O5.out.step HK.out hR hA)
  clear hR hA H5 O5
  go_wp2_with fail
  have H6 := Lib.hid (HK.out.all O6.out.rep ⟨by decide, by decide, by decide, by decide, by decide, by decide, by decide⟩ (HK.out.on HI.out O6.out.world) O6.out.room)
  refine H6.out.mono ?_
  rintro e w7 ⟨q, cap, rfl, _, hT, hb⟩
  have O7 := Lib.hid (O6.out.on HK.out hb)
  have A7 := Lib.hid hT.1
  clear hb hT H6 O6
  go_wp2_with fail
  have N7 := Lib.hid (O7.out.on HK.out ((Below.refl _ _).alloc (Nat.le_refl _) (.cells #[.int .u8 1, .int .u8 2, .int .u8 3, .int .u8 4] 5)))
  have C7 : Hid (Below w7.heap.size w7 (w7.alloc (.cells #[.int .u8 1, .int .u8 2, .int .u8 3, .int .u8 4] 5))) := (Below.refl _ _).alloc (Nat.le_refl _) _
  have HS := Lib.hid (same_any q (some ⟨w7.heap.size, 0, none⟩) cap 4 [1, 2, 3, 4] [1, 2, 3, 4] (by decide) _ (A7.out.on C7.out) (at_lit w7 _ [1, 2, 3, 4] rfl))
  refine HS.out.mono ?_
  rintro e w8 ⟨rfl, n8, hw⟩
  rw [hw]
  clear hw w8 HS C7 A7 O7
  have e8 : (([1, 2, 3, 4] : List UInt8) == [1, 2, 3, 4]) = true := by decide
  rw [e8]
  have O8 := Lib.hid (N7.out.on HK.out (below_drewN (Below.refl _ (w7.alloc (.cells #[.int .u8 1, .int .u8 2, .int .u8 3, .int .u8 4] 5))) n8))
  generalize (w7.alloc (.cells #[.int .u8 1, .int .u8 2, .int .u8 3, .int .u8 4] 5)).drewN n8 = w8 at O8 ⊢
  clear N7 e8
  go_wp2_with fail
  have H8 := Lib.hid (HK.out.written O8.out.rep ⟨by decide, by decide, by decide, by decide, by decide, by decide, by decide⟩ (HK.out.on HI.out O8.out.world) O8.out.room)
  refine H8.out.mono ?_
  rintro e w9 ⟨rfl, hb⟩
  have O9 := Lib.hid (O8.out.on HK.out hb)
  clear hb H8 O8
  go_wp2_with fail
  have H9 := Lib.hid (HK.out.up O9.out.rep ⟨by decide, by decide, by decide, by decide, by decide, by decide, by decide⟩ (HK.out.on HI.out O9.out.world) O9.out.room)
  refine H9.out.mono ?_
  rintro e w10 ⟨rfl, hb⟩
  have O10 := Lib.hid (O9.out.on HK.out hb)
  clear hb H9 O9
  go_wp2
  go_ret
  exact ⟨rfl, O10.out.world⟩

set_option maxHeartbeats 1000000 in
theorem devNumbers_any (K : DevOk I Rep) (w : World) (hI : I w.heap.size w) :
    Calls Try.prog 3 #[] w fun e w' => e = .returned (.bool true) ∧ Below w.heap.size w w' := by
  have HK := Lib.hid K
  have HI := Lib.hid hI
  clear hI
  go_enter Try.func3, Try.ntmps3
  go_wp2_with fail
  refine (HK.out.newBad 1048577 w.heap.size w (.inr (by decide)) HI.out (Nat.le_refl _)).mono ?_
  rintro e w1 ⟨rfl, hb⟩
  have B1 := Lib.hid hb
  clear hb
  go_wp2_with fail
  refine (HK.out.newOk 1048576 w.heap.size w1 (by decide) (HK.out.on HI.out B1.out) B1.out.size).mono ?_
  rintro e w2 ⟨a, F1, rfl, hR, _, hb⟩
  have O1 : Hid (One Rep w.heap.size a w w2 (Dv.new 1048576) F1) := ⟨hR, B1.out.trans (hb.mono B1.out.size), Nat.le_trans B1.out.size hb.size⟩
  clear hR hb
  go_wp2_with fail
  have H9 := Lib.hid (HK.out.quota O1.out.rep ⟨by decide, by decide, by decide, by decide, by decide, by decide, by decide⟩ (HK.out.on HI.out O1.out.world) O1.out.room)
  refine H9.out.mono ?_
  rintro e w3 ⟨rfl, hb⟩
  have O2 := Lib.hid (O1.out.on HK.out hb)
  clear hb H9 O1
  go_wp2
  go_ret
  exact ⟨rfl, O2.out.world⟩
end
end Go.Proofs.Ytoibeajcepbpjaa

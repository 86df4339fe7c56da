/- CrcNumbers and CrcUpdates, walked. -/
import Derived.Test.YthndpccdeagkdaaDoorWLiveC
namespace Go.Proofs.YthndpccdeagkdaaDoor
open Go.RowKit

theorem at_one (w : World) (z : Int) (b : UInt8) (h : z = (b.toNat : Int)) : At (w.alloc (.cells #[.int .u8 z] 5)) (some ⟨w.heap.size, 0, none⟩) [b] := by
  refine .inr ⟨_, _, rfl, by simp, fun j hj => ?_⟩
  have hj0 : j = 0 := by simp at hj; omega
  subst hj0
  rw [World.cell?_alloc_new, h]
  rfl
theorem at_nil (w : World) (p : Option Addr) : At w p [] := .inl rfl

theorem sum_nil : Crc.sum [] = 0 := by kernel_rfl
theorem sum_0 : Crc.sum [0] = 3523407757 := by kernel_rfl
theorem sum_255 : Crc.sum [255] = 4278190080 := by kernel_rfl

set_option maxHeartbeats 1000000 in
theorem crcNumbers_any (w : World) (ht : Hv w) :
    Calls Tryd.prog 3 #[] w fun e w' => e = .returned (.bool true) ∧ Below w.heap.size w w' := by
  have HT := Lib.hid ht
  clear ht
  go_enter Tryd.func3, Tryd.ntmps3
  go_wp2_with fail
  refine (live_any _ HT.out).mono ?_
  rintro e w1 ⟨rfl, hb⟩
  have HB := Lib.hid hb
  have HT1 := Lib.hid (HT.out.on hb)
  clear hb
  go_wp2_with fail
  refine (sum_any none 0 [] (by decide) w1 HT1.out (at_nil _ _)).mono ?_
  rintro e w' ⟨rfl, hw⟩
  rw [hw, sum_nil]
  clear hw w'
  go_wp2_with fail
  refine (slow_any (some ⟨w1.heap.size, 0, none⟩) 1 [0] (by decide) _ (at_one w1 0 0 rfl)).mono ?_
  rintro e w' ⟨rfl, hw⟩
  rw [hw, sum_0]
  clear hw w'
  have HB2 : Hid (Below w.heap.size w (w1.alloc (.cells #[.int .u8 0] 5))) := HB.out.alloc HB.out.size _
  have HT2 : Hid (Hv (w1.alloc (.cells #[.int .u8 0] 5))) := HT.out.on HB2.out
  generalize w1.alloc (.cells #[.int .u8 0] 5) = w2 at HB2 HT2 ⊢
  go_wp2_with fail
  refine (sum_any (some ⟨w2.heap.size, 0, none⟩) 1 [255] (by decide) _ (HT2.out.on ((Below.refl _ _).alloc (Nat.le_refl _) _)) (at_one w2 255 255 rfl)).mono ?_
  rintro e w' ⟨rfl, hw⟩
  rw [hw, sum_255]
  clear hw w'
  go_wp2_with fail
  refine (update_none 5 (by decide) none 0 _).mono ?_
  rintro e w' ⟨rfl, hw⟩
  rw [hw]
  clear hw w'
  go_wp2
  go_ret
  exact ⟨rfl, HB2.out.alloc HB2.out.size _⟩
end Go.Proofs.YthndpccdeagkdaaDoor
